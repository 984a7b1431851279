"""Like rows: a row that another one ahead of it is like is left out, and what that one gives is read."""

from eachstepsame.blocks import images
from eachstepsame.fits import ways_of
from eachstepsame.rewriting import Rewriting, put_instead
from eachstepsame.ways import nearest_rulers, ruled_spans, spans_rule


class Likes(Rewriting):
    def known_as(self):
        return "likes"

    def needed_reasons(self):
        return ("moved",)

    def rewritten(self, function):
        return put_instead(function, like_names(function))


# Operands for the names that are not their own images.
def like_names(function):
    spans = ruled_spans(nearest_rulers(ways_of(function)))
    found = {}
    # Of rows that are like, the last one that stays is enough to know: in this order, once a block is met that it
    # doesn't rule, no later one is ruled by those that stayed ahead of it.
    last = {}
    for number in sorted(spans, key=lambda one: spans[one][0]):
        for row in function.blocks[number].rows:
            if row.name is None:
                continue
            likeness = (row.op, row.extra, images(row.operands, found))
            if likeness in last and spans_rule(spans, last[likeness][0], number):
                found[row.name] = ("name", last[likeness][1])
            else:
                last[likeness] = (number, row.name)
    return found
