"""The runner of blocks: a code is run, with a pile of its own for calls."""

from eachstepsame.blocks import Back, Branch, Jump, Raise, Risk
from eachstepsame.ops import reckoned
from eachstepsame.piles import Pile
from eachstepsame.runs import need_start


def run_blocks(code, inputs, budget):
    need_start(code.function_named("main").takes, inputs, budget)
    return BlockRunner(code, budget).run_from_main(inputs)


# A call that has begun and not ended: its names' values, and the rows and the end of the block at which it is.
class Stay:
    def __init__(self, function, given):
        self.function = function
        self.have = {}
        self.come_to(0, given)

    def come_to(self, number, given):
        block = self.function.blocks[number]
        self.rows = block.rows
        self.end = block.end
        for name, value in zip(block.params, given):
            self.have[name] = value

    def go_along(self, edge, results):
        self.come_to(edge[0], results + self.values_of(edge[1]))

    def go_well(self, value):
        self.go_along(self.end.edge, [value])

    def goes_on_at(self, fault):
        if isinstance(self.end, Risk):
            for caught, edge in self.end.catches:
                if caught == fault:
                    self.go_along(edge, [])
                    return True
        return False

    def value_of(self, operand):
        return self.have[operand[1]] if operand[0] == "name" else operand[1]

    def values_of(self, operands):
        return [self.value_of(operand) for operand in operands]


class BlockRunner(Pile):
    def __init__(self, code, budget):
        Pile.__init__(self, budget)
        self.code = code

    def begin(self, name, given):
        self.frames.append(Stay(self.code.function_named(name), given))

    def do_row(self, stay, row):
        if row.op == "tick":
            self.takes_tick()
        elif row.op == "log":
            self.write(stay.value_of(row.operands[0]))
        else:
            stay.have[row.name] = reckoned(row.op, row.extra, stay.values_of(row.operands))

    def do_end(self, stay, end):
        if isinstance(end, Jump):
            stay.go_along(end.edge, [])
        elif isinstance(end, Branch):
            stay.go_along(end.yes if stay.value_of(end.test) else end.no, [])
        elif isinstance(end, Back):
            self.leave(stay.value_of(end.operand))
        elif isinstance(end, Raise):
            self.fault_comes(end.fault)
        elif end.op == "call":
            self.enter(end.extra, stay.values_of(end.asked))
        else:
            self.risk(stay, end.op, end.extra, stay.values_of(end.asked))
