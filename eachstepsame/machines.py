"""The machine: functions of blocks over registers and the places of frames."""

from eachstepsame.kinds import is_whole

FEWEST_REGISTERS = 2
MOST_REGISTERS = 8


class Machine:
    def __init__(self, functions):
        self.functions = tupled(functions)
        # The field is a dict that its reader may empty; the form itself never changes.
        self.kept_functions = dict(self.functions)

    def names(self):
        return sorted(self.kept_functions)

    def told(self):
        return tuple([(name, self.function_named(name)) for name in self.names()])

    def width(self):
        return max([width_of(function) for function in self.kept_functions.values()], default=0)

    def function_named(self, name):
        return self.kept_functions[name]


# A copy of any thing, with a tuple for each list in it.
def tupled(thing):
    if isinstance(thing, (list, tuple)):
        return tuple([tupled(part) for part in thing])
    if isinstance(thing, dict):
        return dict([(key, tupled(part)) for key, part in thing.items()])
    return thing


def width_of(function):
    return sum([len(rows) + 1 for rows, end in function[2]])


def is_count_of_registers(thing):
    return is_whole(thing) and FEWEST_REGISTERS <= thing <= MOST_REGISTERS
