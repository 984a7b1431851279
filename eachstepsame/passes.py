"""The row of rewritings: their titles, chains of their steps, and the measure that each step makes less."""

from eachstepsame.blocks import Branch, Jump, Risk, is_call
from eachstepsame.copying import Copies
from eachstepsame.errors import NoPass
from eachstepsame.fits import rulers_first, ways_of
from eachstepsame.folding import Fold
from eachstepsame.inlining import PutIn
from eachstepsame.knowing import Known
from eachstepsame.lastcalls import LastCalls
from eachstepsame.likes import Likes
from eachstepsame.moving import Moved
from eachstepsame.unused import Unused
from eachstepsame.ways import nearest_rulers


def all_rewritings():
    return [Fold(), Copies(), Known(), Unused(), Likes(), Moved(), PutIn(), LastCalls()]


def all_titles():
    return [rewriting.known_as() for rewriting in all_rewritings()]


def titled(title):
    for rewriting in all_rewritings():
        if rewriting.known_as() == title:
            return rewriting
    raise NoPass(title)


def holds(title, ahead, behind, paper):
    return titled(title).holds(ahead, behind, paper)


def chain(code, titles):
    if not isinstance(titles, (list, tuple)):
        raise NoPass(titles)
    rewritings = [titled(title) for title in titles]
    steps = []
    changes = True
    while changes:
        changes = False
        for rewriting in rewritings:
            made = rewriting.tried(code)
            if made is not None:
                code = made[0]
                steps.append((rewriting.known_as(), code, made[1]))
                changes = True
    return (code, steps)


def first_amiss(code, steps):
    for number, step in enumerate(steps):
        if not holds(step[0], code, step[1], step[2]):
            return number
        code = step[1]
    return None


def measure(code):
    sums = [0, 0, 0, 0]
    for name in code.names():
        for place, part in enumerate(measure_of(code.function_named(name))):
            sums[place] += part
    return tuple(sums)


def measure_of(function):
    ends = [block.end for block in function.blocks]
    rows = sum([len(block.rows) for block in function.blocks])
    params = sum([len(block.params) for block in function.blocks[1:]])
    ruled = sum([count * len(function.blocks[number].rows) for number, count in ruler_counts(function).items()])
    return (len([end for end in ends if is_call(end)]), sum([weight(end) for end in ends]), rows + params, ruled)


def weight(end):
    if isinstance(end, Risk):
        return 2 + len(end.catches)
    if isinstance(end, Branch):
        return 2
    return 1 if isinstance(end, Jump) else 0


# How many other blocks rule each block.
def ruler_counts(function):
    nearest = nearest_rulers(ways_of(function))
    counts = {0: 0}
    for number in rulers_first(function):
        if number != 0:
            counts[number] = counts[nearest[number]] + 1
    return counts
