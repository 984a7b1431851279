"""Which names of a function are needed: at the begins of its blocks, right behind where they are given, over calls."""

from eachstepsame.blocks import is_call
from eachstepsame.fits import ways_of
from eachstepsame.ways import gone_through


# Of a function of a code that is well made. Names are many and so are the moments, so a set of names is kept as one
# whole number, with a bit for each name.
class Needs:
    def __init__(self, function):
        self.function = function
        self.in_order = []
        self.bits = {}
        bit = 1
        for block in function.blocks:
            for name in block.given():
                self.in_order.append(name)
                self.bits[name] = bit
                bit += bit
        self.at_begin = [0 for block in function.blocks]
        # Of each block the places of its params that are needed, and the names that are needed and none of its params.
        self.needed_params = [[] for block in function.blocks]
        self.needed_others = [0 for block in function.blocks]
        self.settle_begins()
        # Of each name those that are needed right behind where it is given; none where it isn't needed itself.
        self.beside = {}
        self.over_calls = 0
        for block in function.blocks:
            self.look_at_block(block)

    def bit(self, operand):
        return self.bits[operand[1]] if operand[0] == "name" else 0

    def all_bits(self, operands):
        found = 0
        for operand in operands:
            found |= self.bit(operand)
        return found

    # The names of a set, in the order in which they are given.
    def named(self, bits):
        found = []
        while bits != 0:
            lowest = bits & -bits
            found.append(self.in_order[lowest.bit_length() - 1])
            bits ^= lowest
        return found

    def settle_begins(self):
        # Each block behind those to which it leads: so but for loops all is found in one round.
        order = gone_through(ways_of(self.function), 0, {})
        changed = True
        while changed:
            changed = False
            for number in order:
                block = self.function.blocks[number]
                needed = self.wanted_behind(block.end) | self.all_bits(block.end.reads())
                for row in reversed(block.rows):
                    needed = self.ahead_of_row(row, needed)
                if needed != self.at_begin[number]:
                    self.keep_begin(number, needed)
                    changed = True

    def keep_begin(self, number, needed):
        self.at_begin[number] = needed
        params = self.function.blocks[number].params
        self.needed_params[number] = [place for place, name in enumerate(params) if needed & self.bits[name] != 0]
        self.needed_others[number] = needed & ~self.all_bits([("name", name) for name in params])

    def ahead_of_row(self, row, behind):
        return (behind & ~self.bits.get(row.name, 0)) | self.all_bits(row.operands)

    # What the edges of an end still want.
    def wanted_behind(self, end):
        wanted = 0
        for edge, handed in end.edges():
            wanted |= self.needed_others[edge[0]]
            # The first param has the result, where one is handed on.
            operands = (("result",),) + edge[1] if handed else edge[1]
            wanted |= self.all_bits([operands[place] for place in self.needed_params[edge[0]]])
        return wanted

    def look_at_block(self, block):
        needed = self.wanted_behind(block.end)
        if is_call(block.end):
            self.over_calls |= needed
        needed |= self.all_bits(block.end.reads())
        for row in reversed(block.rows):
            if row.name is not None:
                self.keep_beside(row.name, needed)
            needed = self.ahead_of_row(row, needed)
        for name in block.params:
            self.keep_beside(name, needed)

    def keep_beside(self, name, needed):
        self.beside[name] = needed if needed & self.bits[name] != 0 else 0
