"""Registers and frames given out: which names are needed, their homes, and the machine and the table of a code."""

from eachstepsame.blocks import Back, Branch, Jump, Raise
from eachstepsame.errors import NoRegisters
from eachstepsame.fits import need_fit
from eachstepsame.machines import Machine, is_count_of_registers
from eachstepsame.needs import Needs


# The spare place may be a source, too: all moves that are on no ring come first, so it is read ahead of being written.
def moves_in_row(pairs, spare):
    sources = dict([(place, source) for place, source in pairs if place != source])
    readers = dict([(place, 0) for place in sources])
    for source in sources.values():
        if source in readers:
            readers[source] += 1
    rows = []
    free = [place for place, count in readers.items() if count == 0]
    while len(free) > 0:
        place = free.pop()
        source = sources.pop(place)
        rows.append(("move", place, source))
        if source in readers:
            readers[source] -= 1
            if readers[source] == 0:
                free.append(source)
    while len(sources) > 0:
        rows.extend(ring_moves(sources, spare))
    return rows


# The moves of one of the rings, which are all that is left here; its places are taken out.
def ring_moves(sources, spare):
    begin = list(sources)[0]
    rows = [("move", spare, begin)]
    place = begin
    while sources[place] != begin:
        rows.append(("move", place, sources[place]))
        place = sources.pop(place)
    sources.pop(place)
    rows.append(("move", place, spare))
    return rows


def needed_at(function):
    needs = Needs(function)
    return [sorted(needs.named(bits)) for bits in needs.at_begin]


def homes(function, k):
    return Lodging(Needs(function), k - 1).all_homes()


# Homes given out, so many registers among them. Of two names that are needed together the block and row that give the
# one rule those that give the other; so they are needed together right behind where the latter is given, and no other
# moments have to be looked at.
class Lodging:
    def __init__(self, needs, count):
        self.needs = needs
        self.count = count
        # By places: the names whose home it is, and all that are needed together with one of these where it is given.
        self.lodgers = {}
        self.beside_lodgers = {}

    def all_homes(self):
        found = {}
        for place, name in enumerate(self.needs.function.blocks[0].params):
            found[name] = ("frame", place)
            self.lodge(name, found[name])
        for name in self.needs.in_order:
            if name not in found and self.needs.beside[name] != 0:
                found[name] = self.first_free(name)
                self.lodge(name, found[name])
        return found

    def lodge(self, name, place):
        self.lodgers[place] = self.lodgers.get(place, 0) | self.needs.bits[name]
        self.beside_lodgers[place] = self.beside_lodgers.get(place, 0) | self.needs.beside[name]

    def first_free(self, name):
        if self.needs.over_calls & self.needs.bits[name] == 0:
            for number in range(self.count):
                if self.is_free(("reg", number), name):
                    return ("reg", number)
        number = 0
        while not self.is_free(("frame", number), name):
            number += 1
        return ("frame", number)

    def is_free(self, place, name):
        if self.lodgers.get(place, 0) & self.needs.beside[name] != 0:
            return False
        return self.beside_lodgers.get(place, 0) & self.needs.bits[name] == 0


def allotted(code, k):
    if not is_count_of_registers(k):
        raise NoRegisters()
    need_fit(code)
    functions = {}
    table = {}
    for name in code.names():
        allotting = Allotting(code.function_named(name), k)
        functions[name] = allotting.made_function()
        table[name] = allotting.made_claims()
    return (Machine(functions), table)


# One function on its way into a machine. The last register is the home of none: it is the spare place of moves, and
# takes what nobody needs.
class Allotting:
    def __init__(self, function, k):
        self.function = function
        self.needs = Needs(function)
        self.places = Lodging(self.needs, k - 1).all_homes()
        self.spare = ("reg", k - 1)
        # The further blocks, and their numbers by what they are: edges that need the same moves share one.
        self.further = []
        self.numbers = {}

    def made_function(self):
        blocks = []
        for block in self.function.blocks:
            blocks.append(([self.made_row(row) for row in block.rows], self.made_end(block.end)))
        numbers = [place[1] for place in self.places.values() if place[0] == "frame"]
        return (len(self.function.takes), max(numbers, default=-1) + 1, blocks + self.further)

    def made_claims(self):
        claims = []
        for bits in self.needs.at_begin:
            claims.append(dict([(self.places[name], name) for name in self.needs.named(bits)]))
        return claims

    def source(self, operand):
        return self.places[operand[1]] if operand[0] == "name" else operand

    def sources(self, operands):
        return [self.source(operand) for operand in operands]

    def made_row(self, row):
        if row.op == "tick":
            return ("tick",)
        if row.op == "log":
            return ("log", self.source(row.operands[0]))
        return ("op", self.places.get(row.name, self.spare), row.op, row.extra, self.sources(row.operands))

    def made_end(self, end):
        if isinstance(end, Jump):
            return ("jump", self.lead(end.edge))
        if isinstance(end, Branch):
            return ("branch", self.source(end.test), self.lead(end.yes), self.lead(end.no))
        if isinstance(end, Back):
            return ("back", self.source(end.operand))
        if isinstance(end, Raise):
            return ("raise", end.fault)
        return self.made_risk(end)

    def made_risk(self, end):
        params = self.function.blocks[end.edge[0]].params
        pairs = self.pairs_for(params[1:], end.edge[1])
        place = self.places.get(params[0], self.spare)
        if place in [source for other, source in pairs]:
            # What lies there is still to be moved, so the result can't come there at once.
            pairs.append((place, self.spare))
            place = self.spare
        catches = [(fault, self.lead(way)) for fault, way in end.catches]
        number = self.lead_by(end.edge[0], pairs)
        return ("risk", end.op, end.extra, self.sources(end.asked), place, number, catches)

    # What is handed to params that are needed, as moves to be done at once.
    def pairs_for(self, params, operands):
        needed = [(name, operand) for name, operand in zip(params, operands) if name in self.places]
        return [(self.places[name], self.source(operand)) for name, operand in needed]

    def lead(self, edge):
        return self.lead_by(edge[0], self.pairs_for(self.function.blocks[edge[0]].params, edge[1]))

    # The number of the block to which a machine's edge leads: a further one where there is something to move.
    def lead_by(self, number, pairs):
        rows = tuple(moves_in_row(pairs, self.spare))
        if len(rows) == 0:
            return number
        if (number, rows) not in self.numbers:
            self.numbers[(number, rows)] = len(self.function.blocks) + len(self.further)
            self.further.append((rows, ("jump", number)))
        return self.numbers[(number, rows)]
