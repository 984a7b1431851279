"""The runner of blocks: a code is run, with a pile of its own for calls."""

from eachstepsame.blocks import Back, Branch, Jump, Raise, Risk
from eachstepsame.errors import Fault
from eachstepsame.ops import reckoned
from eachstepsame.runs import Going, need_start


def run_blocks(code, inputs, budget):
    need_start(code.function_named("main").takes, inputs, budget)
    runner = BlockRunner(code, budget)
    runner.begin("main", inputs)
    while runner.ending is None:
        runner.go_on()
    return runner.ended()


# A call that has begun and not ended: its names' values, and the block at which it is.
class Stay:
    def __init__(self, function, given):
        self.function = function
        self.have = {}
        self.come_to(0, given)

    def come_to(self, number, given):
        self.block = self.function.blocks[number]
        for name, value in zip(self.block.params, given):
            self.have[name] = value

    def go_along(self, edge, results):
        self.come_to(edge[0], results + self.values_of(edge[1]))

    def value_of(self, operand):
        return self.have[operand[1]] if operand[0] == "name" else operand[1]

    def values_of(self, operands):
        return [self.value_of(operand) for operand in operands]


class BlockRunner(Going):
    def __init__(self, code, budget):
        Going.__init__(self, budget)
        self.code = code
        self.frames = []

    def begin(self, name, given):
        self.frames.append(Stay(self.code.function_named(name), given))

    # One block: its rows, then its end.
    def go_on(self):
        stay = self.frames[-1]
        for row in stay.block.rows:
            self.steps += 1
            self.do_row(stay, row)
            if self.ending is not None:
                return
        self.steps += 1
        self.do_end(stay, stay.block.end)

    def do_row(self, stay, row):
        if row.op == "tick":
            self.takes_tick()
        elif row.op == "log":
            self.write(stay.value_of(row.operands[0]))
        else:
            stay.have[row.name] = reckoned(row.op, row.extra, stay.values_of(row.operands))

    def do_end(self, stay, end):
        if isinstance(end, Jump):
            stay.go_along(end.edge, [])
        elif isinstance(end, Branch):
            stay.go_along(end.yes if stay.value_of(end.test) else end.no, [])
        elif isinstance(end, Back):
            self.leave(stay.value_of(end.operand))
        elif isinstance(end, Raise):
            self.fault_comes(end.fault)
        elif end.op == "call":
            self.enter(end.extra, stay.values_of(end.asked))
        else:
            self.risk(stay, end)

    def enter(self, name, given):
        if self.takes_tick():
            self.begin(name, given)

    def risk(self, stay, end):
        try:
            value = reckoned(end.op, end.extra, stay.values_of(end.asked))
        except Fault as fault:
            self.fault_comes(fault.name)
        else:
            stay.go_along(end.edge, [value])

    def leave(self, value):
        self.frames.pop()
        if len(self.frames) == 0:
            self.answer(value)
        else:
            stay = self.frames[-1]
            stay.go_along(stay.block.end.edge, [value])

    # A function that doesn't catch the fault at the end where it is, is left; then it comes at the call beneath.
    def fault_comes(self, name):
        while len(self.frames) > 0:
            stay = self.frames[-1]
            edge = edge_of_catch(stay.block.end, name)
            if edge is not None:
                stay.go_along(edge, [])
                return
            self.frames.pop()
        self.fail(name)


def edge_of_catch(end, fault):
    if isinstance(end, Risk):
        for caught, edge in end.catches:
            if caught == fault:
                return edge
    return None
