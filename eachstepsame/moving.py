"""Moved: rows of a loop that give the same in each of its rounds are moved ahead of it."""

from eachstepsame.blocks import Block, Jump
from eachstepsame.fits import rulers_first
from eachstepsame.loops import leading_to, loops_of
from eachstepsame.rewriting import Rewriting, same_sheet


class Moved(Rewriting):
    def known_as(self):
        return "moved"

    def needed_reasons(self):
        return ("moved",)

    def rewritten(self, function):
        leading = leading_to(function)
        rank = dict([(number, place) for place, number in enumerate(rulers_first(function))])
        for head, numbers in loops_of(function):
            ahead = block_ahead(function, leading[head], numbers)
            rows = [] if ahead is None else rows_taken(function, sorted(numbers, key=lambda one: rank[one]))
            if len(rows) > 0:
                return (with_rows_at(function, ahead, rows), same_sheet(function))
        return None


# The one block outside of a loop that leads to its head, by a jump; None where there is no such one.
def block_ahead(function, leading, numbers):
    outside = sorted(set(leading) - set(numbers))
    if len(outside) != 1 or not isinstance(function.blocks[outside[0]].end, Jump):
        return None
    return outside[0]


# The rows that can be moved out of a loop, in the order in which they are taken. Its blocks are handed in each behind
# those that rule it: so the operands of a row are met ahead of it, and once round is enough to know its turn.
def rows_taken(function, numbers):
    inside = {}
    for number in numbers:
        inside.update(dict([(name, True) for name in function.blocks[number].given()]))
    turns = {}
    rows = {}
    for number in numbers:
        for place, row in enumerate(function.blocks[number].rows):
            needed = [operand[1] for operand in row.operands if operand[0] == "name" and operand[1] in inside]
            if row.name is not None and all([name in turns for name in needed]):
                turns[row.name] = turn_of(number, place, [turns[name] for name in needed])
                rows[row.name] = row
    return [rows[name] for name in sorted(turns, key=lambda one: turns[one])]


# When a row is taken, as a tuple of the round, its block and its place there: it waits for the next round where one
# that it needs stands behind it.
def turn_of(number, place, needed):
    waits = [turn[0] if turn[1:] < (number, place) else turn[0] + 1 for turn in needed]
    return (max(waits, default=0), number, place)


# The function with these rows behind the rows of one block, and nowhere else.
def with_rows_at(function, ahead, rows):
    taken = dict([(row.name, True) for row in rows])
    blocks = []
    for number, block in enumerate(function.blocks):
        left = [row for row in block.rows if row.name not in taken]
        blocks.append(Block(block.params, left + rows if number == ahead else left, block.end))
    return function.with_blocks(blocks)
