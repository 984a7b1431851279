"""What the runners of forms that have blocks share: a pile of the calls that have begun and not ended."""

from eachstepsame.errors import Fault
from eachstepsame.ops import reckoned
from eachstepsame.runs import Going


# One that stands under it tells how a call begins, and what a row and an end do. A stay is a call that has begun and
# not ended: it has the rows and the end of the block at which it is, and tells how it goes on from a risk that did
# well, and whether it goes on where a fault comes.
class Pile(Going):
    def __init__(self, budget):
        Going.__init__(self, budget)
        self.frames = []

    def run_from_main(self, inputs):
        self.begin("main", inputs)
        while self.ending is None:
            self.go_on()
        return self.ended()

    # One block: its rows, then its end.
    def go_on(self):
        stay = self.frames[-1]
        for row in stay.rows:
            self.steps += 1
            self.do_row(stay, row)
            if self.ending is not None:
                return
        self.steps += 1
        self.do_end(stay, stay.end)

    def enter(self, name, given):
        if self.takes_tick():
            self.begin(name, given)

    def risk(self, stay, op, extra, values):
        try:
            value = reckoned(op, extra, values)
        except Fault as fault:
            self.fault_comes(fault.name)
        else:
            stay.go_well(value)

    def end_call(self):
        self.frames.pop()

    def leave(self, value):
        self.end_call()
        if len(self.frames) == 0:
            self.answer(value)
        else:
            self.frames[-1].go_well(value)

    # A function that doesn't catch the fault at the end where it is, is left; then it comes at the call beneath.
    def fault_comes(self, name):
        while len(self.frames) > 0:
            if self.frames[-1].goes_on_at(name):
                return
            self.end_call()
        self.fail(name)
