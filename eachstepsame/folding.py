"""Folding: rows that give a constant, or plainly one of their operands, are left out."""

from eachstepsame.fits import rulers_first
from eachstepsame.rewriting import Rewriting, put_instead
from eachstepsame.walk import constant_given, plain_of


class Fold(Rewriting):
    def known_as(self):
        return "fold"

    def needed_reasons(self):
        return ("fold", "plain")

    def rewritten(self, function):
        return put_instead(function, folded_names(function))


# Operands for the names that are not their own images.
def folded_names(function):
    found = {}
    # A block that rules another one is met ahead of it: so the operands of a row have their images by then.
    for number in rulers_first(function):
        for row in function.blocks[number].rows:
            told = folded_row(row.moved(found, {}))
            if told is not None:
                found[row.name] = told
    return found


# What is told for the name of a row; of a log and a tick nothing, as they are no operations that give something.
def folded_row(row):
    constant = constant_given(row.op, row.extra, row.operands)
    if constant is not None or len(row.operands) != 2:
        return constant
    return plain_of(row.op, row.operands[0], row.operands[1])
