"""How a run of any form begins, and what it tells."""

from eachstepsame.errors import NoBudget, NoInput
from eachstepsame.kinds import is_value, is_whole, tagged


class Run:
    def __init__(self, ending, thing, log, took, steps):
        self.ending = ending
        self.thing = thing
        self.log = list(log)
        # The field is a list that its reader may empty; what is seen of the run stays.
        self.kept_log = tuple(log)
        self.took = took
        self.steps = steps

    def seen(self):
        return (self.ending, self.thing, self.kept_log, self.took)


# A run that goes on, of whatever form: what it has taken and told until now, and how it ended once it has.
class Going:
    def __init__(self, budget):
        self.budget = budget
        self.log = []
        self.took = 0
        self.steps = 0
        self.ending = None
        self.thing = None

    def takes_tick(self):
        if self.took == self.budget:
            self.ending = "dry"
            return False
        self.took += 1
        return True

    def write(self, value):
        self.log.append(tagged(value))

    def answer(self, value):
        self.ending = "answer"
        self.thing = tagged(value)

    def fail(self, fault):
        self.ending = "fault"
        self.thing = fault

    def ended(self):
        return Run(self.ending, self.thing, self.log, self.took, self.steps)


def need_start(kinds, inputs, budget):
    need_so_many(len(kinds), inputs)
    for place, kind in enumerate(kinds):
        if not is_value(inputs[place], kind):
            raise NoInput(place)
    need_budget(budget)


def need_so_many(count, inputs):
    if not isinstance(inputs, list) or len(inputs) != count:
        raise NoInput(None)


def need_budget(budget):
    if not is_whole(budget) or not 0 <= budget <= 10000:
        raise NoBudget()
