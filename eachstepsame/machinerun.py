"""The runner of machines: registers that all functions share, and a frame for each call."""

from eachstepsame.ops import reckoned
from eachstepsame.piles import Pile
from eachstepsame.runs import need_budget, need_so_many


def run_machine(machine, inputs, budget):
    need_so_many(machine.function_named("main")[0], inputs)
    need_budget(budget)
    return MachineRunner(machine, budget).run_from_main(inputs)


# A call that has begun and not ended: its frame, the registers of all calls, and the rows and the end of the block at
# which it is.
class Visit:
    def __init__(self, blocks, given, registers):
        self.blocks = blocks
        # A dict, as a frame may have very many places of which few are written.
        self.frame = dict(enumerate(given))
        self.registers = registers
        self.come_to(0)

    def come_to(self, number):
        self.rows = self.blocks[number][0]
        self.end = self.blocks[number][1]

    def go_well(self, value):
        self.put(self.end[4], value)
        self.come_to(self.end[5])

    def goes_on_at(self, fault):
        if self.end[0] == "risk":
            for caught, number in self.end[6]:
                if caught == fault:
                    self.come_to(number)
                    return True
        return False

    def put(self, place, value):
        if place[0] == "reg":
            self.registers[place[1]] = value
        else:
            self.frame[place[1]] = value

    def value_of(self, source):
        if source[0] == "reg":
            return self.registers[source[1]]
        return self.frame[source[1]] if source[0] == "frame" else source[1]

    def values_of(self, sources):
        return [self.value_of(source) for source in sources]


class MachineRunner(Pile):
    def __init__(self, machine, budget):
        Pile.__init__(self, budget)
        self.machine = machine
        self.registers = {}

    def begin(self, name, given):
        self.registers.clear()
        self.frames.append(Visit(self.machine.function_named(name)[2], given, self.registers))

    def end_call(self):
        self.registers.clear()
        self.frames.pop()

    def do_row(self, visit, row):
        if row[0] == "tick":
            self.takes_tick()
        elif row[0] == "log":
            self.write(visit.value_of(row[1]))
        elif row[0] == "move":
            visit.put(row[1], visit.value_of(row[2]))
        else:
            visit.put(row[1], reckoned(row[2], row[3], visit.values_of(row[4])))

    def do_end(self, visit, end):
        if end[0] == "jump":
            visit.come_to(end[1])
        elif end[0] == "branch":
            visit.come_to(end[2] if visit.value_of(end[1]) else end[3])
        elif end[0] == "back":
            self.leave(visit.value_of(end[1]))
        elif end[0] == "raise":
            self.fault_comes(end[1])
        elif end[1] == "call":
            self.enter(end[2], visit.values_of(end[3]))
        else:
            self.risk(visit, end[1], end[2], visit.values_of(end[3]))
