"""Points 2, 3, 4 and 40: how runs begin, are refused, and what they tell."""

import copy
import unittest

from eachstepsame.errors import NoBudget, NoInput
from eachstepsame.runs import Run, need_start
from eachstepsame.sourcerun import run_source
from eachstepsame.typer import typed
from tests.helper import KINDS, NUM, TRUTH, back, fun, name, num, refusal, shown, things

FLAG = ("record", (TRUTH, NUM))
PROGRAM = ((("flag", (("up", TRUTH), ("size", NUM))),), (
    fun("other", [], NUM, back(num(1))),
    fun("main", [("a", NUM), ("b", TRUTH), ("c", ("row", 2)), ("d", ("named", "flag"))], NUM, back(name("a"))),
))
KINDS_TAKEN = [NUM, TRUTH, ("row", 2), FLAG]
GOOD = [5, True, (1, 2), (False, 3)]


class Starts(unittest.TestCase):
    def asked(self, inputs, budget):
        """The refusal, the same one of a start asked by itself and of a run of the source."""
        kept = copy.deepcopy((inputs, budget))
        told = refusal(need_start, KINDS_TAKEN, inputs, budget)
        self.assertEqual(refusal(need_start, tuple(KINDS_TAKEN), inputs, budget), told)
        self.assertEqual(refusal(run_source, typed(PROGRAM), inputs, budget), told)
        self.assertEqual(shown((inputs, budget)), shown(kept))
        return told

    def test_begun(self):
        self.assertIsNone(need_start(KINDS_TAKEN, GOOD, 0))
        for budget in [0, 1, 9999, 10000]:
            self.assertIsNone(self.asked(GOOD, budget))
        self.assertIsNone(need_start([], [], 0))
        self.assertIsNone(need_start((), [], 0))

    def test_no_list_of_so_many(self):
        for inputs in [tuple(GOOD), GOOD[:3], GOOD + [1], [], (), None, {}, "abcd", 4, True, dict(enumerate(GOOD)),
                       [GOOD], "", {0: 5}]:
            self.assertEqual(self.asked(inputs, 10), ("NoInput", None), inputs)
        for inputs in [(), {}, None, 0, "", [None], [[]]]:
            self.assertEqual(refusal(need_start, [], inputs, 0), ("NoInput", None))

    def test_the_first_that_is_no_value_of_its_kind(self):
        wrong = [
            [True, False, None, "5", (5,), [5], {}],
            [0, 1, None, "True", (True,), [True]],
            [(1,), (1, 2, 3), [1, 2], (1, True), (False, 2), (1, None), 1, (), None, "ab", ((1, 2),)],
            [(3, False), (1, 3), (False, True), (False,), (False, 3, 3), [False, 3], None, False, ()],
        ]
        for place, some in enumerate(wrong):
            for thing in some:
                inputs = GOOD[:place] + [thing] + GOOD[place + 1:]
                self.assertEqual(self.asked(inputs, 10), ("NoInput", place), inputs)
                later = GOOD[:place] + [thing] + [None] * (3 - place)
                self.assertEqual(self.asked(later, 10), ("NoInput", place), later)

    def test_great_numbers_are_numbers(self):
        self.assertIsNone(self.asked([10 ** 50 - 1, False, (1 - 10 ** 50, 0), (True, -1)], 0))

    def test_any_thing_as_an_input(self):
        for thing in things():
            number = thing.__class__ is int
            self.assertEqual(refusal(need_start, [NUM], [thing], 3), None if number else ("NoInput", 0), thing)
            told = refusal(need_start, [NUM], thing, 3)
            single = isinstance(thing, list) and len(thing) == 1
            if single:
                self.assertEqual(told, None if thing[0].__class__ is int else ("NoInput", 0))
            else:
                self.assertEqual(told, ("NoInput", None), thing)

    def test_budgets(self):
        for budget in [10001, -1, True, False, "10", "", None, (), [], {}, (5,), [5], 10 ** 59, -(10 ** 59)]:
            self.assertEqual(self.asked(GOOD, budget), ("NoBudget",), budget)
        for thing in things():
            good = thing.__class__ is int and 0 <= thing <= 10000
            self.assertEqual(self.asked(GOOD, thing), None if good else ("NoBudget",), thing)

    def test_several_at_once(self):
        self.assertEqual(self.asked(GOOD + [1], -1), ("NoInput", None))
        self.assertEqual(self.asked(tuple(GOOD), None), ("NoInput", None))
        self.assertEqual(self.asked([None, None, None], True), ("NoInput", None))
        self.assertEqual(self.asked([5, 1, None, None], "x"), ("NoInput", 1))
        self.assertEqual(self.asked([5, True, (1, 2), None], 10001), ("NoInput", 3))

    def test_of_every_kind(self):
        for kind in KINDS:
            self.assertEqual(refusal(need_start, [kind], [None], 0), ("NoInput", 0))

    def test_classes(self):
        with self.assertRaises(NoInput) as caught:
            need_start([NUM], [1, 2], 0)
        self.assertIsNone(caught.exception.place)
        with self.assertRaises(NoBudget):
            need_start([NUM], [1], -1)


class Runs(unittest.TestCase):
    def test_fields_and_what_is_seen(self):
        logged = [("num", 1), ("truth", True)]
        run = Run("answer", ("num", 4), logged, 3, 17)
        self.assertEqual((run.ending, run.thing, run.log, run.took, run.steps), ("answer", ("num", 4), logged, 3, 17))
        self.assertIsInstance(run.log, list)
        self.assertEqual(shown(run.seen()), shown(("answer", ("num", 4), tuple(logged), 3)))
        self.assertEqual(Run("dry", None, [], 0, 1).seen(), ("dry", None, (), 0))

    def test_arguments_by_their_names(self):
        run = Run(ending="fault", thing="zero", log=(), took=1, steps=2)
        self.assertEqual(run.log, [])
        self.assertEqual(run.seen(), ("fault", "zero", (), 1))

    def test_what_is_changed_later_is_not_seen(self):
        logged = [("num", 1)]
        run = Run("dry", None, logged, 3, 17)
        logged.append(("num", 2))
        self.assertEqual(run.log, [("num", 1)])
        run.log.clear()
        self.assertEqual(logged, [("num", 1), ("num", 2)])
        self.assertEqual(run.seen(), ("dry", None, (("num", 1),), 3))


if __name__ == "__main__":
    unittest.main()
