"""The table of places: a code, a machine and a table are looked at, and nothing else is believed."""

from eachstepsame.blocks import Back, Branch, Jump, Raise
from eachstepsame.fits import is_fit
from eachstepsame.kinds import is_constant, is_pair, is_truth, is_whole
from eachstepsame.machines import is_count_of_registers

# Stands for what a risk hands on, which no operand is equal to.
RESULT = ("result",)


def holds(code, machine, table, k):
    if not is_count_of_registers(k) or not is_fit(code):
        return False
    if not has_just(machine.kept_functions, code.names()) or not has_just(table, code.names()):
        return False
    for name in code.names():
        function = code.function_named(name)
        made = machine.function_named(name)
        if not is_made_for(function, made) or not Descent(function, made, table[name], k).holds_all():
            return False
    return True


def has_just(thing, names):
    return isinstance(thing, dict) and len(thing) == len(names) and all([name in thing for name in names])


# Whether a thing is a function of a machine that may stand for this one; its rows and ends are yet to be looked at.
def is_made_for(function, thing):
    if not is_tuple_of(thing, 3) or not is_whole(thing[0]) or not is_whole(thing[1]):
        return False
    if thing[0] != len(function.takes) or thing[1] < thing[0] or not isinstance(thing[2], tuple):
        return False
    return len(thing[2]) >= len(function.blocks) and all([is_block(part) for part in thing[2]])


def is_tuple_of(thing, count):
    return isinstance(thing, tuple) and len(thing) == count


def is_block(thing):
    return is_pair(thing) and isinstance(thing[0], tuple)


# Whether a thing is a row or an end of this word, with so much in it.
def is_worded(thing, word, count):
    return is_tuple_of(thing, count) and thing[0] == word


# As 1 and True are equal to Python, but not here.
def are_alike(one, other):
    if isinstance(one, tuple) and isinstance(other, tuple):
        return len(one) == len(other) and all([are_alike(part, one_more) for part, one_more in zip(one, other)])
    return is_truth(one) == is_truth(other) and one == other


# One function, what a machine has for it, and what a table claims of its blocks, looked at block by block. What is held
# is a dict from places to operands.
class Descent:
    def __init__(self, function, made, claims, k):
        self.function = function
        self.frame = made[1]
        self.blocks = made[2]
        self.claims = claims
        self.count = k

    def holds_all(self):
        if not self.are_claims() or not self.claims_params():
            return False
        count = len(self.function.blocks)
        if not all([self.is_further(block) for block in self.blocks[count:]]):
            return False
        return all([self.block_holds(number) for number in range(count)])

    def are_claims(self):
        if not isinstance(self.claims, list) or len(self.claims) != len(self.function.blocks):
            return False
        return all([self.is_claim(thing) for thing in self.claims])

    def is_claim(self, thing):
        if not isinstance(thing, dict):
            return False
        return all([self.is_place(place) and is_whole(name) for place, name in thing.items()])

    # Whether of block 0 nothing is claimed but that its params are where a function finds what it takes.
    def claims_params(self):
        there = dict([(("frame", place), name) for place, name in enumerate(self.function.blocks[0].params)])
        return all([there.get(place) == name for place, name in self.claims[0].items()])

    def is_further(self, block):
        if not is_worded(block[1], "jump", 2) or not is_whole(block[1][1]):
            return False
        return all([self.is_move(row) for row in block[0]])

    def is_move(self, thing):
        return is_worded(thing, "move", 3) and self.is_place(thing[1]) and self.is_source(thing[2])

    def is_source(self, thing):
        return is_constant(thing) or self.is_place(thing)

    def is_place(self, thing):
        if not is_pair(thing) or not is_whole(thing[1]) or thing[1] < 0:
            return False
        if thing[0] == "reg":
            return thing[1] < self.count
        return thing[0] == "frame" and thing[1] < self.frame

    def block_holds(self, number):
        block = self.function.blocks[number]
        held = dict([(place, ("name", name)) for place, name in self.claims[number].items()])
        done = 0
        for row in self.blocks[number][0]:
            if self.is_move(row):
                if not self.move(row, held):
                    return False
            elif done == len(block.rows) or not self.row_holds(block.rows[done], row, held):
                return False
            else:
                done += 1
        return done == len(block.rows) and self.end_holds(block.end, self.blocks[number][1], held)

    # What a source holds; None where it holds nothing, or is none.
    def held_by(self, source, held):
        if is_constant(source):
            return source
        return held.get(source) if self.is_place(source) else None

    def move(self, row, held):
        operand = self.held_by(row[2], held)
        held[row[1]] = operand
        return operand is not None

    def hold(self, sources, operands, held):
        if not is_tuple_of(sources, len(operands)):
            return False
        return [self.held_by(source, held) for source in sources] == list(operands)

    def row_holds(self, row, made, held):
        if row.op == "tick":
            return is_worded(made, "tick", 1)
        if row.op == "log":
            return is_worded(made, "log", 2) and self.hold(made[1:], row.operands, held)
        if not is_worded(made, "op", 5) or not self.is_place(made[1]) or made[2] != row.op:
            return False
        if not are_alike(made[3], row.extra) or not self.hold(made[4], row.operands, held):
            return False
        given = ("name", row.name)
        for place in [place for place, operand in held.items() if operand == given]:
            held.pop(place)
        held[made[1]] = given
        return True

    def end_holds(self, end, made, held):
        if isinstance(end, Jump):
            return is_worded(made, "jump", 2) and self.edge_holds(end.edge, [], made[1], held)
        if isinstance(end, Branch):
            if not is_worded(made, "branch", 4) or not self.hold(made[1:2], end.reads(), held):
                return False
            return self.edge_holds(end.yes, [], made[2], held) and self.edge_holds(end.no, [], made[3], held)
        if isinstance(end, Back):
            return is_worded(made, "back", 2) and self.hold(made[1:], end.reads(), held)
        if isinstance(end, Raise):
            return is_worded(made, "raise", 2) and are_alike(made[1], end.fault)
        return is_worded(made, "risk", 7) and self.risk_holds(end, made, held)

    def risk_holds(self, end, made, held):
        if made[1] != end.op or not are_alike(made[2], end.extra) or not self.hold(made[3], end.asked, held):
            return False
        if not self.is_place(made[4]) or not is_tuple_of(made[6], len(end.catches)):
            return False
        left = held
        if end.op == "call":
            left = dict([(place, operand) for place, operand in held.items() if place[0] == "frame"])
        done = dict(left)
        done[made[4]] = RESULT
        if not self.edge_holds(end.edge, [RESULT], made[5], done):
            return False
        for catch, other in zip(end.catches, made[6]):
            if not is_pair(other) or not are_alike(catch[0], other[0]):
                return False
            if not self.edge_holds(catch[1], [], other[1], left):
                return False
        return True

    def edge_holds(self, edge, results, number, held):
        if not is_whole(number) or not 0 <= number < len(self.blocks):
            return False
        if number < len(self.function.blocks):
            return number == edge[0] and self.claims_hold(edge, results, held)
        further = self.blocks[number]
        moved_on = dict(held)
        if further[1][1] != edge[0] or not all([self.move(row, moved_on) for row in further[0]]):
            return False
        return self.claims_hold(edge, results, moved_on)

    def claims_hold(self, edge, results, held):
        handed = dict(zip(self.function.blocks[edge[0]].params, results + list(edge[1])))
        for place, name in self.claims[edge[0]].items():
            if held.get(place) != handed.get(name, ("name", name)):
                return False
        return True
