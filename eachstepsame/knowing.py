"""Known ends: branches, and risks of operations, that read but constants become jumps or raises."""

from eachstepsame.blocks import Block, Jump, Raise
from eachstepsame.fits import closed_up
from eachstepsame.rewriting import Rewriting, same_sheet
from eachstepsame.walk import known_way


class Known(Rewriting):
    def known_as(self):
        return "known"

    def needed_reasons(self):
        return ("known",)

    def rewritten(self, function):
        ends = [known_end(block.end) for block in function.blocks]
        if ends.count(None) == len(ends):
            return None
        blocks = []
        for block, end in zip(function.blocks, ends):
            blocks.append(block if end is None else Block(block.params, block.rows, end))
        closed = closed_up(function.with_blocks(blocks))
        return (closed[0], (closed[1], same_sheet(closed[0])[1]))


# The end by which the one way on is gone; None where it isn't known.
def known_end(end):
    way = known_way(end, end.reads())
    if way is None:
        return None
    if way[0] is None:
        return Raise(way[2])
    return Jump((way[0][0], tuple(way[1]) + way[0][1]))
