"""Unused: rows that give what nobody needs, and params that nobody needs, are left out."""

from eachstepsame.fits import given_in
from eachstepsame.rewriting import Rewriting, handed_on, same_sheet, without


class Unused(Rewriting):
    def known_as(self):
        return "unused"

    def needed_reasons(self):
        return ()

    def rewritten(self, function):
        needed = needed_names(function)
        gone = dict([(name, True) for name in given_in(function) if name not in needed])
        if len(gone) == 0:
            return None
        behind = without(function, gone, {})
        return (behind, same_sheet(behind))


# A dict of True for each name that is needed.
def needed_names(function):
    handed = handed_on(function)
    made_of = made_of_names(function, handed)
    needed = {}
    waiting = needed_at_once(function, handed)
    while len(waiting) > 0:
        name = waiting.pop()
        if name not in needed:
            needed[name] = True
            waiting.extend(made_of.get(name, []))
    return needed


def needed_at_once(function, handed):
    found = list(function.blocks[0].params)
    found.extend([name for name, operands in handed.items() if None in operands])
    for block in function.blocks:
        found.extend(names_among(block.end.reads()))
        for row in block.rows:
            if row.name is None:
                found.extend(names_among(row.operands))
    return found


# Of the name of a row or a param the names that are read for it.
def made_of_names(function, handed):
    found = dict([(name, names_among(operands)) for name, operands in handed.items()])
    for block in function.blocks:
        for row in block.rows:
            found[row.name] = names_among(row.operands)
    return found


def names_among(operands):
    return [operand[1] for operand in operands if operand is not None and operand[0] == "name"]
