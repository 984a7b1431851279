"""What several tests need: things of every kind, and a telling apart of 1 from True."""

from itertools import product

NUM = ("num",)
TRUTH = ("truth",)

FIELD_TUPLES = [fields for count in range(1, 5) for fields in product((NUM, TRUTH), repeat=count)]
ROWS = [("row", count) for count in range(1, 7)]
RECORDS = [("record", fields) for fields in FIELD_TUPLES]
KINDS = [NUM, TRUTH] + ROWS + RECORDS


def plain_things():
    greatest = int("9" * 60)
    printable = "".join(chr(code) for code in range(32, 127) if code != 37)
    return [
        0, 1, 2, 6, 7, -1, 10 ** 49, greatest, -greatest, True, False, None,
        "", " ", "a", "num", "truth", "row", "record", "name", "copy", "add", "mul", "zero", "call",
        "Num", "1", "True", "None", printable, "x" * 100,
    ]


def within_ten(core):
    thing = core
    for depth in range(3):
        thing = {"a": ([thing],)}
    return thing


def things():
    """Numbers, texts, truths, None, lists, tuples and dicts, within one another too."""
    plain = plain_things()
    few = [0, 1, True, False, None, "num", "row", "a", (), [], {}, NUM, ["num"], {"num": 1}]
    held = [(), [], {}, {1: 2}, {"num": None}, {(): []}, {(1, ("a",)): [{}]}]
    for thing in plain:
        held.extend([(thing,), [thing], {"a": thing}, {thing: thing}, ((thing,),), [[thing]]])
    for one in few:
        for other in few:
            held.extend([(one, other), [one, other], {"a": one, "b": other}, (one, (other,)), (one, [other])])
    held.extend([(1, 2, 3), [1, 2, 3], (True, False), ("num", 1, 2), [("num", 1)], within_ten(1), within_ten([])])
    return plain + held


def shown(thing):
    """A text that is equal just where things are the same ones, 1 and True or a list and a tuple apart."""
    return repr(thing)
