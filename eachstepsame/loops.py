"""Loops of a function: their heads and blocks, and how many of them have each block."""

from eachstepsame.fits import followers, reached, ways_of
from eachstepsame.ways import nearest_rulers, ruled_spans, spans_rule


def leading_to(function):
    found = {}
    for number in reached(function):
        for follower in followers(function, number):
            found.setdefault(follower, []).append(number)
    return found


def loops_of(function):
    leading = leading_to(function)
    closing = closing_blocks(function, leading)
    return [(head, loop_blocks(head, closing[head], leading)) for head in sorted(closing)]


def depths(function):
    counts = [0 for block in function.blocks]
    for head, numbers in loops_of(function):
        for number in numbers:
            counts[number] += 1
    return counts


# Of each head the blocks that it rules and that have an edge to it.
def closing_blocks(function, leading):
    found = {}
    # A function without edges may be one without blocks, of which nothing could be ruled.
    if len(leading) > 0:
        spans = ruled_spans(nearest_rulers(ways_of(function)))
        for head, numbers in leading.items():
            closing = [number for number in numbers if spans_rule(spans, head, number)]
            if len(closing) > 0:
                found[head] = closing
    return found


def loop_blocks(head, closing, leading):
    found = {head: True}
    waiting = list(closing)
    while len(waiting) > 0:
        number = waiting.pop()
        if number not in found:
            found[number] = True
            waiting.extend(leading[number])
    return sorted(found)
