"""Points 2, 4 and 11 to 14: kinds, values, constants, values tagged."""

import copy
import unittest
from itertools import product

from eachstepsame.kinds import is_constant, is_kind, is_value, parts_of, tagged
from tests.helper import KINDS, NUM, RECORDS, ROWS, TRUTH, shown, things

ATOMS = [0, 1, 2, 6, 7, -1, True, False, None, "", "num", "truth", "row", "record", (), [], {}, NUM, ["num"], TRUTH]


def near_kinds():
    """Things that look much like kinds, kinds among them."""
    for atom in ATOMS:
        yield atom
        yield (atom,)
        yield [atom]
    for one, other in product(ATOMS, repeat=2):
        yield (one, other)
        yield [one, other]
        yield ("record", (one, other))
        yield ("record", [one, other])
        yield ("row", 3, one)
        yield (one, other, 1)
    for count in range(7):
        for fields in product((NUM, TRUTH, ("row", 1), ("record", (NUM,))), repeat=min(count, 5)):
            yield ("record", fields)
            yield ("record", list(fields))
    for count in range(-3, 12):
        yield ("row", count)
        yield ["row", count]
        yield ("row", (count,))
        yield ("row", str(count))
    yield ("row", 10 ** 59)


def asked_values():
    """Values of many kinds and things that are nearly such."""
    atoms = [0, 1, -5, 10 ** 50, True, False, None, "a", (), (1,), (True,)]
    for count in range(4):
        for parts in product(atoms, repeat=count):
            yield parts
            yield list(parts)
    for count in range(4, 9):
        yield (3,) * count
        yield [3] * count
        for place in range(count):
            yield (3,) * place + (True,) + (3,) * (count - place - 1)


def fits(thing, kind):
    """Told anew, by what Python calls a thing's class."""
    if kind == NUM or kind == TRUTH:
        return thing.__class__ is (int if kind == NUM else bool)
    wanted = [NUM] * kind[1] if kind[0] == "row" else kind[1]
    if thing.__class__ is not tuple or len(thing) != len(wanted):
        return False
    return all(fits(part, want) for part, want in zip(thing, wanted))


class Kinds(unittest.TestCase):
    def test_kinds_are_kinds(self):
        self.assertEqual(len(KINDS), 38)
        for kind in KINDS:
            self.assertIs(is_kind(kind), True, kind)

    def test_no_other_thing_is_a_kind(self):
        kinds = {shown(kind) for kind in KINDS}
        for thing in list(near_kinds()) + things():
            self.assertIs(is_kind(thing), shown(thing) in kinds, thing)

    def test_edges_of_rows(self):
        self.assertEqual([is_kind(("row", count)) for count in [0, 1, 6, 7]], [False, True, True, False])
        self.assertIs(is_kind(("row", True)), False)

    def test_edges_of_records(self):
        told = [is_kind(("record", (NUM,) * count)) for count in [0, 1, 4, 5]]
        self.assertEqual(told, [False, True, True, False])

    def test_records_hold_no_rows_and_no_records(self):
        for kind in ROWS + RECORDS:
            self.assertIs(is_kind(("record", (kind,))), False)
            self.assertIs(is_kind(("record", (NUM, kind))), False)

    def test_named_is_no_kind_here(self):
        self.assertIs(is_kind(("named", "point")), False)


class Parts(unittest.TestCase):
    def test_parts(self):
        self.assertEqual(parts_of(NUM), [])
        self.assertEqual(parts_of(TRUTH), [])
        self.assertEqual(parts_of(("row", 1)), [NUM])
        self.assertEqual(parts_of(("row", 6)), [NUM] * 6)
        self.assertEqual(parts_of(("record", (TRUTH,))), [TRUTH])
        self.assertEqual(parts_of(("record", (NUM, TRUTH, TRUTH, NUM))), [NUM, TRUTH, TRUTH, NUM])

    def test_parts_of_all_kinds(self):
        for kind in ROWS:
            self.assertEqual(parts_of(kind), [NUM] * kind[1])
        for kind in RECORDS:
            self.assertEqual(parts_of(kind), list(kind[1]))

    def test_the_list_is_the_askers_own(self):
        for kind in KINDS:
            first = parts_of(kind)
            self.assertIsInstance(first, list)
            kept = list(first)
            first.clear()
            first.append("other")
            self.assertEqual(parts_of(kind), kept)


class Values(unittest.TestCase):
    def test_numbers(self):
        for value in [0, 1, -1, 10 ** 50, -(10 ** 59)]:
            self.assertIs(is_value(value, NUM), True)
        for thing in [True, False, None, "1", (1,), [1], {}]:
            self.assertIs(is_value(thing, NUM), False)

    def test_truths(self):
        self.assertIs(is_value(True, TRUTH), True)
        self.assertIs(is_value(False, TRUTH), True)
        for thing in [0, 1, None, "True", (True,), [True], {}]:
            self.assertIs(is_value(thing, TRUTH), False)

    def test_rows(self):
        self.assertIs(is_value((4, 5), ("row", 2)), True)
        for thing in [(4,), (4, 5, 6), (), [4, 5], (4, True), (False, 5), (4, None), ((4, 5),), 4, {4: 5}]:
            self.assertIs(is_value(thing, ("row", 2)), False)
        self.assertIs(is_value((1, 2, 3, 4, 5, 6), ("row", 6)), True)
        self.assertIs(is_value((1, 2, 3, 4, 5, 6, 7), ("row", 6)), False)

    def test_records(self):
        kind = ("record", (NUM, TRUTH))
        self.assertIs(is_value((4, True), kind), True)
        self.assertIs(is_value((1, False), kind), True)
        for thing in [(True, 4), (4, 1), (0, 0), (True, True), (4,), (4, True, True), [4, True], (), 4]:
            self.assertIs(is_value(thing, kind), False)

    def test_many_things_of_all_kinds(self):
        for thing in list(asked_values()) + things():
            for kind in KINDS:
                self.assertIs(is_value(thing, kind), fits(thing, kind), (thing, kind))

    def test_things_stay_as_they_were(self):
        asked = things()
        kept = copy.deepcopy(asked)
        for thing in asked:
            is_kind(thing)
            is_constant(thing)
            for kind in KINDS:
                is_value(thing, kind)
        self.assertEqual(shown(asked), shown(kept))


class Constants(unittest.TestCase):
    def test_constants(self):
        for thing in [("num", 0), ("num", 1), ("num", -(10 ** 55)), ("truth", True), ("truth", False)]:
            self.assertIs(is_constant(thing), True)

    def test_wrong_values(self):
        for thing in [("num", True), ("num", False), ("truth", 0), ("truth", 1), ("num", None), ("num", "1")]:
            self.assertIs(is_constant(thing), False)

    def test_wrong_forms(self):
        wrong = [
            ("num",), ("truth",), ("num", 1, 2), ["num", 1], ["truth", True], ("name", 1), (1, "num"), ("Num", 1),
            ("num", (1,)), ("truth", (True,)), (("num", 1),), (None, True), (("num",), 1), ("row", 1), 1, True,
        ]
        for thing in wrong:
            self.assertIs(is_constant(thing), False, thing)

    def test_any_thing(self):
        constants = {shown(("num", value)) for value in [0, 1]}
        constants |= {shown(("truth", value)) for value in [True, False]}
        for thing in things():
            self.assertIs(is_constant(thing), shown(thing) in constants, thing)


class Tagged(unittest.TestCase):
    def test_numbers_and_truths(self):
        self.assertEqual(shown(tagged(1)), "('num', 1)")
        self.assertEqual(shown(tagged(0)), "('num', 0)")
        self.assertEqual(shown(tagged(-7)), "('num', -7)")
        self.assertEqual(shown(tagged(True)), "('truth', True)")
        self.assertEqual(shown(tagged(False)), "('truth', False)")

    def test_rows_and_records(self):
        self.assertEqual(shown(tagged((1, 2))), "(('num', 1), ('num', 2))")
        self.assertEqual(shown(tagged((1, True))), "(('num', 1), ('truth', True))")
        self.assertEqual(shown(tagged((False,))), "(('truth', False),)")

    def test_equal_just_where_the_values_are_the_same(self):
        values = [0, 1, True, False, (0,), (1,), (True,), (0, 1), (0, True), (False, True), (1, 0), (1, 1, 1)]
        for one in values:
            for other in values:
                self.assertEqual(tagged(one) == tagged(other), shown(one) == shown(other), (one, other))


if __name__ == "__main__":
    unittest.main()
