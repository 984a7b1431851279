"""Putting in: a call becomes a jump to the blocks of the called function, which stand among those of its caller."""

from eachstepsame.blocks import Back, Block, Function, Jump, Raise, Risk, is_call
from eachstepsame.kinds import is_whole
from eachstepsame.rewriting import Reframing, are_new_names, jumping, next_names
from eachstepsame.walk import is_number_of_block

# How wide a function may be that is put in, and how wide the one may get in which it is.
INNER_WIDTH = 12
WHOLE_WIDTH = 300


class PutIn(Reframing):
    def known_as(self):
        return "putin"

    def first_paper(self, code):
        small = small_functions(code)
        for name in code.names():
            function = code.function_named(name)
            room = WHOLE_WIDTH - function.width() - 1
            fitting = [inner for inner, width in small.items() if width <= room]
            for number, block in enumerate(function.blocks):
                if is_call(block.end) and block.end.extra in fitting:
                    return paper_for(code, name, number)
        return None

    def is_paper(self, code, thing):
        if not isinstance(thing, tuple) or len(thing) != 4 or thing[0] not in code.names():
            return False
        function = code.function_named(thing[0])
        if not is_number_of_block(thing[1], function) or not is_call(function.blocks[thing[1]].end):
            return False
        inner = code.function_named(function.blocks[thing[1]].end.extra)
        return are_told_names(thing[2], inner, function) and are_told_blocks(thing[3], inner, function)

    def reframed(self, code, paper):
        function = code.function_named(paper[0])
        block = function.blocks[paper[1]]
        inner = code.function_named(block.end.extra)
        blocks = list(function.blocks)
        blocks[paper[1]] = jumping(block, (paper[3][0], block.end.asked))
        for number in sorted(paper[3], key=lambda one: paper[3][one]):
            blocks.append(block_put_in(inner.blocks[number], paper[2], paper[3], block.end))
        kinds = dict(function.kept_kinds)
        kinds.update(dict([(paper[2][name], kind) for name, kind in inner.kept_kinds.items()]))
        return Function(function.takes, function.gives, kinds, blocks)


# The widths of the functions, by their names, that may be put in.
def small_functions(code):
    found = {}
    for name in code.names():
        function = code.function_named(name)
        calls = any([is_call(block.end) for block in function.blocks])
        if name != "main" and not calls and function.width() <= INNER_WIDTH:
            found[name] = function.width()
    return found


def paper_for(code, name, number):
    function = code.function_named(name)
    inner = code.function_named(function.blocks[number].end.extra)
    names = sorted(inner.kept_kinds)
    count = len(function.blocks)
    numbers = dict([(place, count + place) for place in range(len(inner.blocks))])
    return (name, number, dict(zip(names, next_names(function, len(names)))), numbers)


def are_told_names(thing, inner, function):
    return is_dict_of(thing, list(inner.kept_kinds)) and are_new_names(list(thing.values()), function)


def are_told_blocks(thing, inner, function):
    count = len(function.blocks)
    if not is_dict_of(thing, list(range(len(inner.blocks)))) or not all([is_whole(one) for one in thing.values()]):
        return False
    return sorted(thing.values()) == list(range(count, count + len(inner.blocks)))


# Whether a thing is a dict that has just these numbers as keys.
def is_dict_of(thing, numbers):
    if not isinstance(thing, dict) or len(thing) != len(numbers):
        return False
    return all([is_whole(key) for key in thing]) and all([number in thing for number in numbers])


def block_put_in(block, names, numbers, call):
    operands = dict([(name, ("name", told)) for name, told in names.items()])
    rows = [row.moved(operands, names) for row in block.rows]
    return Block([names[name] for name in block.params], rows, end_put_in(block.end.moved(operands, numbers), call))


# An end of the inner function, put otherwise by now: where it would leave that function it goes on as the call does.
def end_put_in(end, call):
    if isinstance(end, Back):
        return Jump((call.edge[0], (end.operand,) + call.edge[1]))
    if isinstance(end, Raise):
        edges = [edge for fault, edge in call.catches if fault == end.fault]
        return Jump(edges[0]) if len(edges) > 0 else end
    if isinstance(end, Risk):
        own = [fault for fault, edge in end.catches]
        more = [(fault, edge) for fault, edge in call.catches if fault not in own]
        return Risk(end.op, end.extra, end.asked, end.edge, list(end.catches) + more)
    return end
