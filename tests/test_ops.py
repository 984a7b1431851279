"""Points 4 and 15 to 18: operations, the kinds they give, what they give or which fault they raise."""

import copy
import unittest
from itertools import product

from eachstepsame.errors import Fault, StepError
from eachstepsame.kinds import is_value
from eachstepsame.ops import is_pure, is_risky, reckoned, result_kind
from tests.helper import KINDS, NUM, RECORDS, ROWS, TRUTH, shown, things

PURE = ["copy", "neg", "add", "sub", "less", "same", "and", "or", "not", "make", "get", "put"]
RISKY = ["mul", "div", "mod", "pick", "lay"]
OPS = PURE + RISKY

SAMPLE = [NUM, TRUTH, ("row", 1), ("row", 2), ("row", 6), ("record", (NUM,)), ("record", (TRUTH, NUM))]
EXTRAS = [None, 0, 1, 2, 5, 6, -1, True, False, "", "num", (), [], {}, (0,), [0], ["row", 1]] + SAMPLE + [
    ("row", 0), ("row", 7), ("row", True), ("record", ()), ("record", [NUM]), ("record", (NUM,) * 5),
    ("record", (("row", 1),)), ("named", "a"),
]

VALUES = {
    NUM: [0, 1, -1, 2, 7, -13],
    TRUTH: [True, False],
    ("row", 1): [(0,), (-4,)],
    ("row", 2): [(3, 4), (1, 0)],
    ("row", 6): [(1, 2, 3, 4, 5, 6)],
    ("record", (NUM,)): [(0,), (9,)],
    ("record", (TRUTH, NUM)): [(True, 1), (False, 0)],
}


def kind_tuples(longest):
    for count in range(longest + 1):
        for kinds in product(SAMPLE, repeat=count):
            yield kinds


def parts(kind):
    return (NUM,) * kind[1] if kind[0] == "row" else kind[1]


def fitting():
    """All that fits among the samples, by (operation, extra, kinds), and what it gives."""
    fit = {("neg", "None", (NUM,)): NUM, ("not", "None", (TRUTH,)): TRUTH}
    for op in ["add", "sub", "mul", "div", "mod"]:
        fit[op, "None", (NUM, NUM)] = NUM
    for op in ["less", "same"]:
        fit[op, "None", (NUM, NUM)] = TRUTH
    for op in ["and", "or"]:
        fit[op, "None", (TRUTH, TRUTH)] = TRUTH
    for kind in SAMPLE:
        fit["copy", "None", (kind,)] = kind
    for kind in SAMPLE[2:]:
        fit["make", shown(kind), parts(kind)] = kind
        for place, part in enumerate(parts(kind)):
            fit["get", shown(place), (kind,)] = part
            fit["put", shown(place), (kind, part)] = kind
    for kind in SAMPLE[2:5]:
        fit["pick", "None", (kind, NUM)] = NUM
        fit["lay", "None", (kind, NUM, NUM)] = kind
    return fit


class Words(unittest.TestCase):
    def test_pure_and_risky(self):
        for op in PURE:
            self.assertIs(is_pure(op), True, op)
            self.assertIs(is_risky(op), False, op)
        for op in RISKY:
            self.assertIs(is_pure(op), False, op)
            self.assertIs(is_risky(op), True, op)

    def test_other_words_are_neither(self):
        for word in ["call", "log", "tick", "", "Copy", "add ", "ad", "+", "mod mod", "name"]:
            self.assertIs(is_pure(word), False, word)
            self.assertIs(is_risky(word), False, word)

    def test_any_thing(self):
        for thing in things():
            self.assertIs(is_pure(thing), shown(thing) in ["'copy'", "'add'"], thing)
            self.assertIs(is_risky(thing), shown(thing) == "'mul'", thing)
        for op in OPS:
            for thing in [(op,), [op], {op: op}]:
                self.assertIs(is_pure(thing), False)
                self.assertIs(is_risky(thing), False)


class ResultKind(unittest.TestCase):
    def test_all_samples(self):
        fit = fitting()
        for kinds in kind_tuples(3):
            for extra in EXTRAS:
                for op in OPS:
                    told = result_kind(op, extra, kinds)
                    self.assertEqual(told, fit.get((op, shown(extra), kinds)), (op, extra, kinds))

    def test_wide_rows_and_records(self):
        for kind in ROWS + RECORDS:
            made = list(parts(kind))
            self.assertEqual(result_kind("make", kind, made), kind)
            self.assertIsNone(result_kind("make", kind, made[1:]))
            self.assertIsNone(result_kind("make", kind, made + [NUM]))
            for place, part in enumerate(made):
                other = TRUTH if part == NUM else NUM
                turned = made[:place] + [other] + made[place + 1:]
                self.assertIsNone(result_kind("make", kind, turned))
                self.assertEqual(result_kind("get", place, [kind]), part)
                self.assertEqual(result_kind("put", place, [kind, part]), kind)
                self.assertIsNone(result_kind("put", place, [kind, other]))
            for place in [-1, len(made), True, False, None, "0"]:
                self.assertIsNone(result_kind("get", place, [kind]))
                self.assertIsNone(result_kind("put", place, [kind, NUM]))
                self.assertIsNone(result_kind("put", place, [kind, TRUTH]))

    def test_copy_of_every_kind(self):
        for kind in KINDS:
            self.assertEqual(result_kind("copy", None, [kind]), kind)

    def test_lists_as_tuples(self):
        for kinds in kind_tuples(2):
            for op in OPS:
                self.assertEqual(result_kind(op, None, list(kinds)), result_kind(op, None, kinds))

    def test_any_thing_as_the_extra(self):
        kinds = {shown(kind) for kind in ROWS + RECORDS}
        for thing in things():
            for op in OPS:
                for taken in [(), (NUM,), (NUM, NUM), (TRUTH,), (TRUTH, TRUTH), (("row", 2), NUM)]:
                    told = result_kind(op, thing, taken)
                    if op == "make":
                        fits = shown(thing) in kinds and parts(thing) == taken
                        self.assertEqual(told, thing if fits else None)
                    elif op == "get":
                        self.assertIsNone(told)
                    elif op == "put":
                        fits = shown(thing) in ["0", "1"] and len(taken) == 2 and taken[0] == ("row", 2)
                        self.assertEqual(told, ("row", 2) if fits else None)
                    elif thing is not None:
                        self.assertIsNone(told)
            told = result_kind("get", thing, [("row", 2)])
            self.assertEqual(told, NUM if shown(thing) in ["0", "1"] else None)

    def test_any_thing_as_the_word(self):
        for thing in things():
            if thing not in ["copy", "add", "mul"]:
                for extra in [None, 0, ("row", 1)]:
                    for taken in [(), (NUM,), (NUM, NUM), (("row", 1),), (("row", 1), NUM)]:
                        self.assertIsNone(result_kind(thing, extra, taken))
        for word in ["call", "log", "tick"]:
            for kinds in kind_tuples(2):
                self.assertIsNone(result_kind(word, None, kinds))

    def test_what_is_handed_in_stays(self):
        for extra in things():
            kinds = [("row", 2), NUM]
            kept = copy.deepcopy(extra)
            for op in OPS:
                result_kind(op, extra, kinds)
            self.assertEqual(shown(extra), shown(kept))
            self.assertEqual(kinds, [("row", 2), NUM])


class Pure(unittest.TestCase):
    def told(self, wanted, op, extra, *values):
        self.assertEqual(shown(reckoned(op, extra, values)), shown(wanted))
        handed = list(values)
        self.assertEqual(shown(reckoned(op, extra, handed)), shown(wanted))
        self.assertEqual(shown(handed), shown(list(values)))

    def test_copy(self):
        for value in [0, 1, True, False, (1, 2), (True, 1), (0,)]:
            self.told(value, "copy", None, value)

    def test_numbers(self):
        for one, other in product([0, 1, -1, 5, -8, 10 ** 50, 1 - 10 ** 60], repeat=2):
            self.told(one + other, "add", None, one, other)
            self.told(one - other, "sub", None, one, other)
            self.told(one < other, "less", None, one, other)
            self.told(one == other, "same", None, one, other)
        self.told(12, "add", None, 5, 7)
        self.told(-2, "sub", None, 5, 7)
        self.told(2, "sub", None, 7, 5)
        self.told(True, "less", None, 5, 7)
        self.told(False, "less", None, 7, 5)
        self.told(False, "less", None, 5, 5)

    def test_neg(self):
        for value in [0, 1, -1, 10 ** 60]:
            self.told(value * -1, "neg", None, value)

    def test_sums_are_never_too_great(self):
        greatest = 10 ** 50 - 1
        self.told(10 ** 50, "add", None, greatest, 1)
        self.told(-(10 ** 50), "sub", None, -greatest, 1)

    def test_truths(self):
        self.told(False, "and", None, True, False)
        self.told(False, "and", None, False, True)
        self.told(False, "and", None, False, False)
        self.told(True, "and", None, True, True)
        self.told(True, "or", None, True, False)
        self.told(True, "or", None, False, True)
        self.told(False, "or", None, False, False)
        self.told(True, "or", None, True, True)
        self.told(False, "not", None, True)
        self.told(True, "not", None, False)

    def test_make(self):
        self.told((4,), "make", ("row", 1), 4)
        self.told((4, 5, 6), "make", ("row", 3), 4, 5, 6)
        self.told((1, 2, 3, 4, 5, 6), "make", ("row", 6), 1, 2, 3, 4, 5, 6)
        self.told((True,), "make", ("record", (TRUTH,)), True)
        self.told((1, True), "make", ("record", (NUM, TRUTH)), 1, True)
        self.told((False, 0, 1, True), "make", ("record", (TRUTH, NUM, NUM, TRUTH)), False, 0, 1, True)

    def test_get(self):
        for place in range(6):
            self.told(place * 10, "get", place, (0, 10, 20, 30, 40, 50))
        self.told(True, "get", 0, (True, 1))
        self.told(1, "get", 1, (True, 1))

    def test_put(self):
        self.told((9, 2, 3), "put", 0, (1, 2, 3), 9)
        self.told((1, 9, 3), "put", 1, (1, 2, 3), 9)
        self.told((1, 2, 9), "put", 2, (1, 2, 3), 9)
        self.told((9,), "put", 0, (1,), 9)
        self.told((False, 1), "put", 0, (True, 1), False)
        self.told((True, 0), "put", 1, (True, 1), 0)


class Risky(unittest.TestCase):
    def told(self, wanted, op, *values):
        self.assertEqual(shown(reckoned(op, None, values)), shown(wanted))
        handed = list(values)
        self.assertEqual(shown(reckoned(op, None, handed)), shown(wanted))
        self.assertEqual(shown(handed), shown(list(values)))

    def faults(self, name, op, *values):
        for handed in [values, list(values)]:
            with self.assertRaises(Fault) as caught:
                reckoned(op, None, handed)
            self.assertEqual(caught.exception.name, name)
            self.assertIsInstance(caught.exception, StepError)
            self.assertEqual(shown(list(handed)), shown(list(values)))

    def test_mul(self):
        for one, other in product([0, 1, -1, 7, -12, 10 ** 20], repeat=2):
            self.told(one * other, "mul", one, other)

    def test_products_of_fifty_and_fifty_one_figures(self):
        half = 10 ** 25
        greatest = 10 ** 50 - 1
        self.told(greatest, "mul", half - 1, half + 1)
        self.told(-greatest, "mul", half - 1, -half - 1)
        self.told(-greatest, "mul", 1 - half, half + 1)
        self.told(greatest, "mul", greatest, 1)
        self.told(-greatest, "mul", greatest, -1)
        self.told(10 ** 49, "mul", 10 ** 24, half)
        self.faults("great", "mul", half, half)
        self.faults("great", "mul", half, -half)
        self.faults("great", "mul", -half, half)
        self.faults("great", "mul", -half, -half)
        self.faults("great", "mul", 10 ** 50, 1)
        self.faults("great", "mul", -1, 10 ** 50)
        self.faults("great", "mul", greatest, 2)
        self.faults("great", "mul", greatest, greatest)

    def test_great_things_times_nought(self):
        self.told(0, "mul", 10 ** 59, 0)
        self.told(0, "mul", 0, -(10 ** 59))

    def test_div_and_mod(self):
        for one, other, whole, rest in [
            (7, 2, 3, 1), (-7, 2, -4, 1), (7, -2, -4, -1), (-7, -2, 3, -1), (6, 3, 2, 0), (-6, 3, -2, 0),
            (6, -3, -2, 0), (-6, -3, 2, 0), (0, 5, 0, 0), (0, -5, 0, 0), (1, 5, 0, 1), (-1, 5, -1, 4),
            (1, -5, -1, -4), (-1, -5, 0, -1), (4, 1, 4, 0), (4, -1, -4, 0),
        ]:
            self.told(whole, "div", one, other)
            self.told(rest, "mod", one, other)

    def test_div_is_the_greatest_that_is_not_above(self):
        great = 10 ** 50 - 1
        numbers = list(range(-9, 10)) + [great, -great, great // 3, -great // 7]
        for one, other in product(numbers, repeat=2):
            if other != 0:
                whole = reckoned("div", None, (one, other))
                sign = 1 if other > 0 else -1
                self.assertLessEqual(whole * other * sign, one * sign)
                self.assertGreater((whole + 1) * other * sign, one * sign)
                self.assertEqual(reckoned("mod", None, (one, other)), one - other * whole)

    def test_nothing_is_divided_by_nought(self):
        for one in [0, 1, -1, 10 ** 50]:
            self.faults("zero", "div", one, 0)
            self.faults("zero", "mod", one, 0)

    def test_div_and_mod_are_never_too_great(self):
        self.told(-(10 ** 55), "div", 10 ** 55, -1)
        self.told(10 ** 55, "mod", 10 ** 55, 10 ** 56)

    def test_pick(self):
        row = (10, 11, 12, 13, 14, 15)
        for place in range(6):
            self.told(10 + place, "pick", row, place)
        self.told(4, "pick", (4,), 0)
        for place in [-1, -6, -7, 6, 7, 10 ** 50, -(10 ** 50)]:
            self.faults("range", "pick", row, place)
        for place in [-1, 1]:
            self.faults("range", "pick", (4,), place)

    def test_lay(self):
        row = (10, 11, 12)
        self.told((9, 11, 12), "lay", row, 0, 9)
        self.told((10, 9, 12), "lay", row, 1, 9)
        self.told((10, 11, 9), "lay", row, 2, 9)
        self.told((9,), "lay", (4,), 0, 9)
        self.assertEqual(row, (10, 11, 12))
        for place in [-1, -3, -4, 3, 4, 10 ** 50, -(10 ** 50)]:
            self.faults("range", "lay", row, place, 9)
        for place in [-1, 1]:
            self.faults("range", "lay", (4,), place, 9)


class WhatIsGiven(unittest.TestCase):
    def test_a_value_of_the_kind_told_or_a_fault(self):
        faults = {"mul": ["great"], "div": ["zero"], "mod": ["zero"], "pick": ["range"], "lay": ["range"]}
        came = set()
        for kinds in list(kind_tuples(3)) + [(NUM,) * 6]:
            for op, extra in product(OPS, [None, 0, 1, 5] + SAMPLE):
                gives = result_kind(op, extra, kinds)
                if gives is None:
                    continue
                for values in product(*[VALUES[kind] for kind in kinds]):
                    try:
                        given = reckoned(op, extra, values)
                    except Fault as fault:
                        self.assertIn(fault.name, faults.get(op, []))
                        came.add((op, fault.name))
                    else:
                        self.assertTrue(is_value(given, gives), (op, extra, values))
                        came.add(op)
        self.assertLessEqual(set(OPS), came)

    def test_the_same_again(self):
        for count in range(3):
            self.assertEqual(reckoned("put", 1, ((1, 2), 3)), (1, 3))
            self.assertEqual(result_kind("put", 1, [("row", 2), NUM]), ("row", 2))


if __name__ == "__main__":
    unittest.main()
