"""Operations: their words, the kinds they give, and what they give or which fault they raise."""

from eachstepsame.errors import Fault
from eachstepsame.kinds import NUM, TRUTH, is_record_kind, is_row_kind, is_whole, parts_of

# Tuples, and asked by in: the word may be any thing, a list too, which no dict could be asked for.
PURE = ("copy", "neg", "add", "sub", "less", "same", "and", "or", "not", "make", "get", "put")
RISKY = ("mul", "div", "mod", "pick", "lay")


def is_pure(op):
    return op in PURE


def is_risky(op):
    return op in RISKY


def result_kind(op, extra, kinds):
    taken = list(kinds)
    if op == "make":
        return make_kind(extra, taken)
    if op == "get":
        return get_kind(extra, taken)
    if op == "put":
        return put_kind(extra, taken)
    if extra is not None:
        return None
    if op == "copy":
        return taken[0] if len(taken) == 1 else None
    if op == "pick":
        return NUM if is_row_with(taken, [NUM]) else None
    if op == "lay":
        return taken[0] if is_row_with(taken, [NUM, NUM]) else None
    return plain_kind(op, taken)


def make_kind(extra, taken):
    if not is_row_kind(extra) and not is_record_kind(extra):
        return None
    return extra if taken == parts_of(extra) else None


def get_kind(extra, taken):
    if len(taken) != 1 or not is_part_number(extra, taken[0]):
        return None
    return parts_of(taken[0])[extra]


def put_kind(extra, taken):
    if len(taken) != 2 or not is_part_number(extra, taken[0]):
        return None
    return taken[0] if taken[1] == parts_of(taken[0])[extra] else None


def is_part_number(extra, kind):
    return is_whole(extra) and 0 <= extra < len(parts_of(kind))


def is_row_with(taken, others):
    return len(taken) > 0 and taken[0][0] == "row" and taken[1:] == others


def plain_kind(op, taken):
    if op in ("add", "sub", "mul", "div", "mod"):
        return NUM if taken == [NUM, NUM] else None
    if op in ("less", "same"):
        return TRUTH if taken == [NUM, NUM] else None
    if op in ("and", "or"):
        return TRUTH if taken == [TRUTH, TRUTH] else None
    if op == "neg":
        return NUM if taken == [NUM] else None
    if op == "not":
        return TRUTH if taken == [TRUTH] else None
    return None


def reckoned(op, extra, values):
    if is_risky(op):
        return risked(op, values)
    if op == "make":
        return tuple(values)
    if op == "get":
        return values[0][extra]
    if op == "put":
        return replaced(values[0], extra, values[1])
    if len(values) == 1:
        return of_one(op, values[0])
    return of_two(op, values[0], values[1])


def of_one(op, value):
    if op == "neg":
        return 0 - value
    if op == "not":
        return not value
    return value


def of_two(op, one, other):
    if op == "add":
        return one + other
    if op == "sub":
        return one - other
    if op == "less":
        return one < other
    if op == "same":
        return one == other
    if op == "and":
        return one and other
    return one or other


def risked(op, values):
    if op == "mul":
        return product(values[0], values[1])
    if op == "pick":
        need_place(values[0], values[1])
        return values[0][values[1]]
    if op == "lay":
        need_place(values[0], values[1])
        return replaced(values[0], values[1], values[2])
    if values[1] == 0:
        raise Fault("zero")
    # Python's // and % round downwards, below nought too, as is asked here.
    return values[0] // values[1] if op == "div" else values[0] % values[1]


def product(one, other):
    result = one * other
    if abs(result) >= 10 ** 50:
        raise Fault("great")
    return result


def need_place(row, place):
    # Python would count a place below nought from the row's end.
    if not 0 <= place < len(row):
        raise Fault("range")


def replaced(whole, place, part):
    return whole[:place] + (part,) + whole[place + 1:]
