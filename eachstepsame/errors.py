"""The refusals, and Fault, which operations alone raise."""


class StepError(ValueError):
    pass


class NoName(StepError):
    def __init__(self, name, place):
        self.name = name
        self.place = place


class Twice(StepError):
    def __init__(self, name, place):
        self.name = name
        self.place = place


class NoFit(StepError):
    def __init__(self, wants, gives):
        self.wants = wants
        self.gives = gives


class NoMain(StepError):
    # Without it the class would take whatever its base takes.
    def __init__(self):
        pass


class NoInput(StepError):
    def __init__(self, place):
        self.place = place


class NoCode(StepError):
    def __init__(self, function, block):
        self.function = function
        self.block = block


class NoBudget(StepError):
    def __init__(self):
        pass


class NoRegisters(StepError):
    def __init__(self):
        pass


class NoPass(StepError):
    # The name may be any thing, a list too, and what is changed in that later must not be seen here.
    def __init__(self, name):
        self.name = copied(name)


class Fault(StepError):
    def __init__(self, name):
        self.name = name


def copied(thing):
    if isinstance(thing, list):
        return [copied(part) for part in thing]
    if isinstance(thing, tuple):
        return tuple([copied(part) for part in thing])
    if isinstance(thing, dict):
        return dict([(key, copied(part)) for key, part in thing.items()])
    return thing
