"""Kinds, values of kinds, constants, and values tagged."""

NUM = ("num",)
TRUTH = ("truth",)


def is_whole(thing):
    # True and False are ints to Python, but no whole numbers here.
    return isinstance(thing, int) and not isinstance(thing, bool)


def is_truth(thing):
    return isinstance(thing, bool)


def is_kind(thing):
    return is_field_kind(thing) or is_row_kind(thing) or is_record_kind(thing)


def is_field_kind(thing):
    return thing == NUM or thing == TRUTH


def is_row_kind(thing):
    if not is_pair(thing) or thing[0] != "row":
        return False
    return is_whole(thing[1]) and 1 <= thing[1] <= 6


def is_record_kind(thing):
    if not is_pair(thing) or thing[0] != "record":
        return False
    fields = thing[1]
    if not isinstance(fields, tuple) or not 1 <= len(fields) <= 4:
        return False
    return all([is_field_kind(field) for field in fields])


def is_pair(thing):
    return isinstance(thing, tuple) and len(thing) == 2


def parts_of(kind):
    if kind[0] == "row":
        return [NUM for place in range(kind[1])]
    if kind[0] == "record":
        return list(kind[1])
    return []


def is_value(thing, kind):
    if kind == NUM:
        return is_whole(thing)
    if kind == TRUTH:
        return is_truth(thing)
    parts = parts_of(kind)
    if not isinstance(thing, tuple) or len(thing) != len(parts):
        return False
    return all([is_value(thing[place], part) for place, part in enumerate(parts)])


def is_constant(thing):
    if not is_pair(thing):
        return False
    if thing[0] == "num":
        return is_whole(thing[1])
    return thing[0] == "truth" and is_truth(thing[1])


def tagged(value):
    # Asked ahead of numbers: a truth passes for an int.
    if isinstance(value, bool):
        return ("truth", value)
    if isinstance(value, int):
        return ("num", value)
    return tuple([tagged(part) for part in value])
