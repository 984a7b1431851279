"""Copies: rows that copy, and params to which all edges hand one and the same operand, are left out."""

from eachstepsame.fits import rulers_first
from eachstepsame.rewriting import Rewriting, handed_on, put_instead


class Copies(Rewriting):
    def known_as(self):
        return "copies"

    def needed_reasons(self):
        return ("copy", "param")

    def rewritten(self, function):
        return put_instead(function, Clearing(function).all_cleared())


# A row that copies is handed its operand, and nothing else: so it is left out by the same rule as a param.
def handed_to_names(function):
    handed = handed_on(function)
    found = {}
    # In the order in which they are given on the way from block 0, so that few must be looked at again.
    for number in rulers_first(function):
        block = function.blocks[number]
        for name in block.params:
            operands = handed.get(name, [])
            if None not in operands:
                found[name] = operands
        for row in block.rows:
            if row.op == "copy":
                found[row.name] = [row.operands[0]]
    return found


# Names are left out one by one, until no more can be.
class Clearing:
    def __init__(self, function):
        self.handed = handed_to_names(function)
        # The operands that stand where names stood which are left out.
        self.instead = {}
        # Of each name those that are looked at again when it is left out: it is handed to them.
        self.touched = {}
        for name, operands in self.handed.items():
            for operand in operands:
                if operand[0] == "name":
                    self.touched.setdefault(operand[1], []).append(name)

    def all_cleared(self):
        waiting = list(self.handed)[::-1]
        while len(waiting) > 0:
            name = waiting.pop()
            operand = None if name in self.instead else self.one_for(name)
            if operand is not None:
                waiting.extend(self.leave_out(name, operand))
        return dict([(name, self.now(("name", name))) for name in list(self.instead)])

    # The one operand that is handed to a name, but for itself; None where there are several, or none at all.
    def one_for(self, name):
        found = None
        for handed in self.handed[name]:
            operand = self.now(handed)
            if operand == ("name", name) or operand == found:
                continue
            if found is not None:
                return None
            found = operand
        return found

    # Puts the operand for the name, and tells the names that are to be looked at again.
    def leave_out(self, name, operand):
        self.instead[name] = operand
        again = [one for one in self.touched.get(name, []) if one not in self.instead]
        if operand[0] == "name":
            self.touched.setdefault(operand[1], []).extend(again)
        return again

    # What stands for an operand by now; what was passed is told straight from then on, as ways may get long.
    def now(self, operand):
        passed = []
        while operand[0] == "name" and operand[1] in self.instead:
            passed.append(operand[1])
            operand = self.instead[operand[1]]
        for name in passed:
            self.instead[name] = operand
        return operand
