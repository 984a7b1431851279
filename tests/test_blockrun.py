"""Points 2, 3, 4, 40, 52 and 60 to 62: the runner of blocks."""

import copy
import unittest

from eachstepsame.blockrun import run_blocks
from eachstepsame.blocks import Back, Block, Branch, Code, Jump, Raise, Risk, Row
from eachstepsame.errors import NoBudget, NoInput
from eachstepsame.fits import need_fit
from eachstepsame.kinds import is_value
from eachstepsame.runs import Run
from tests.helper import (
    FLAG, NO, NUM, TICK, TRUTH, YES, BlockOracle, Sower, made, n, noted, num, refusal, sample_code, shown, single,
    sown_code, things,
)

WIDE = ("row", 3)


class Runs(unittest.TestCase):
    def seen(self, code, wanted, inputs=(), budget=100):
        """(ending, thing, values logged, ticks, steps)"""
        need_fit(code)
        kept, handed = shown(code.told()), list(inputs)
        run = run_blocks(code, handed, budget)
        self.assertIsInstance(run, Run)
        logged = [value for word, value in run.log]
        self.assertEqual(shown((run.ending, run.thing, logged, run.took, run.steps)), shown(wanted))
        self.assertEqual(run.seen(), (run.ending, run.thing, tuple(run.log), run.took))
        self.assertLessEqual(run.steps, code.width() * (run.took + 1))
        self.assertEqual(handed, list(inputs))
        self.assertEqual(shown(code.told()), kept)
        self.assertEqual(run_blocks(code, handed, budget).seen(), run.seen())
        return run


class Starts(Runs):
    TAKES = [NUM, TRUTH, ("row", 2), FLAG]
    GOOD = [5, True, (1, 2), (False, 3)]

    def asked(self, inputs, budget):
        code = single([], Back(n(0)), self.TAKES, n1=TRUTH, n2=("row", 2), n3=FLAG)
        kept = copy.deepcopy((inputs, budget))
        told = refusal(run_blocks, code, inputs, budget)
        self.assertEqual(shown((inputs, budget)), shown(kept))
        return told

    def test_inputs_that_fit(self):
        for budget in [0, 1, 10000]:
            self.assertIsNone(self.asked(self.GOOD, budget))
        self.assertIsNone(self.asked([10 ** 50 - 1, False, (1 - 10 ** 50, 0), (True, -1)], 0))

    def test_no_list_of_so_many(self):
        for inputs in [tuple(self.GOOD), self.GOOD[:3], self.GOOD + [1], [], (), None, {}, "abcd", 4, True]:
            self.assertEqual(self.asked(inputs, 10), ("NoInput", None), inputs)

    def test_the_first_that_is_no_value_of_its_kind(self):
        wrong = [[True, False, None, "5", (5,)], [0, 1, None, (True,)], [[1, 2], (1, True), (1,), (1, 2, 3), None],
                 [(3, False), (1, 3), (False, True), [False, 3], None]]
        for place, some in enumerate(wrong):
            for thing in some:
                for behind in [self.GOOD[place + 1:], [None] * (3 - place)]:
                    inputs = self.GOOD[:place] + [thing] + behind
                    self.assertEqual(self.asked(inputs, 10), ("NoInput", place), inputs)

    def test_budgets(self):
        for thing in things():
            good = thing.__class__ is int and 0 <= thing <= 10000
            self.assertEqual(self.asked(self.GOOD, thing), None if good else ("NoBudget",), thing)

    def test_several_at_once(self):
        self.assertEqual(self.asked(self.GOOD + [1], -1), ("NoInput", None))
        self.assertEqual(self.asked(tuple(self.GOOD), None), ("NoInput", None))
        self.assertEqual(self.asked([5, 1, None, None], True), ("NoInput", 1))
        self.assertEqual(self.asked([5, True, (1, 2), None], 10001), ("NoInput", 3))

    def test_any_thing_as_the_inputs(self):
        code = single([], Back(n(0)), [NUM])
        for thing in things():
            good = isinstance(thing, list) and len(thing) == 1 and thing[0].__class__ is int
            amiss = 0 if isinstance(thing, list) and len(thing) == 1 else None
            self.assertEqual(refusal(run_blocks, code, thing, 3), None if good else ("NoInput", amiss), thing)

    def test_main_of_several_functions(self):
        other = made([NUM, NUM], NUM, Block([0, 1], [], Back(n(1))))
        code = Code({"a": other, "main": made([TRUTH], TRUTH, Block([0], [], Back(n(0))), n0=TRUTH), "z": other})
        self.assertEqual(refusal(run_blocks, code, [1, 2], 3), ("NoInput", None))
        self.assertEqual(refusal(run_blocks, code, [1], 3), ("NoInput", 0))
        self.seen(code, ("answer", ("truth", True), [], 0, 1), [True])

    def test_classes(self):
        code = single([], Back(num(1)))
        with self.assertRaises(NoInput) as caught:
            run_blocks(code, [1], 0)
        self.assertIsNone(caught.exception.place)
        with self.assertRaises(NoBudget):
            run_blocks(code, [], 10001)


class Rows(Runs):
    def test_answers_of_each_kind(self):
        for kind, value, told in [
            (NUM, 1, ("num", 1)), (TRUTH, True, ("truth", True)), (("row", 2), (1, 0), (("num", 1), ("num", 0))),
            (FLAG, (True, 1), (("truth", True), ("num", 1))),
        ]:
            self.seen(single([], Back(n(0)), [kind], kind, n0=kind), ("answer", told, [], 0, 1), [value])
        self.seen(single([], Back(num(-3))), ("answer", ("num", -3), [], 0, 1))
        self.seen(single([], Back(NO), gives=TRUTH), ("answer", ("truth", False), [], 0, 1))

    def test_every_pure_operation(self):
        rows = [
            Row(4, "copy", None, [n(0)]), Row(5, "neg", None, [n(4)]), Row(6, "add", None, [n(5), num(10)]),
            Row(7, "sub", None, [n(6), n(0)]), Row(8, "less", None, [n(7), num(0)]), Row(9, "same", None,
                                                                                         [n(0), num(7)]),
            Row(10, "and", None, [n(8), n(9)]), Row(11, "or", None, [n(10), n(1)]), Row(12, "not", None, [n(11)]),
            Row(13, "make", WIDE, [n(0), n(5), n(6)]), Row(14, "get", 1, [n(13)]), Row(15, "put", 1, [n(3), n(6)]),
            Row(16, "get", 0, [n(15)]), Row(17, "get", 1, [n(15)]), Row(18, "get", 1, [n(3)]),
            Row(19, "put", 2, [n(13), num(9)]), Row(20, "get", 2, [n(19)]), Row(21, "get", 2, [n(13)]),
        ]
        scalars = [4, 5, 6, 7, 8, 9, 10, 11, 12, 14, 16, 17, 18, 20, 21]
        code = single(rows + [noted(n(name)) for name in scalars], Back(n(15)), [NUM, TRUTH, WIDE, FLAG], FLAG,
                      n1=TRUTH, n2=WIDE, n3=FLAG, n8=TRUTH, n9=TRUTH, n10=TRUTH, n11=TRUTH, n12=TRUTH, n13=WIDE,
                      n15=FLAG, n16=TRUTH, n19=WIDE)
        self.seen(code, ("answer", (("truth", True), ("num", 3)),
                         [7, -7, 3, -4, True, True, True, True, False, -7, True, 3, 50, 9, 3], 0, len(rows) + 15 + 1),
                  [7, False, (0, 0, 0), (True, 50)])

    def test_logs_are_tagged_and_in_order(self):
        code = single([noted(num(1)), noted(YES), noted(num(0)), noted(NO), noted(n(0))], Raise("oops"), [NUM])
        run = self.seen(code, ("fault", "oops", [1, True, 0, False, 8], 0, 6), [8])
        self.assertEqual(shown(run.log), shown([("num", 1), ("truth", True), ("num", 0), ("truth", False), ("num", 8)]))

    def test_a_log_that_was_told_and_emptied(self):
        code = single([noted(num(1)), noted(YES)], Back(num(2)))
        run = run_blocks(code, [], 5)
        run.log.clear()
        self.assertEqual(run.seen(), ("answer", ("num", 2), (("num", 1), ("truth", True)), 0))
        again = run_blocks(code, [], 5)
        self.assertEqual(again.log, [("num", 1), ("truth", True)])
        self.assertIsNot(again.log, run_blocks(code, [], 5).log)

    def test_fields_of_the_code_that_were_emptied(self):
        code = sample_code()
        wanted = run_blocks(code, [3, True], 50).seen()
        code.functions["main"].kinds.clear()
        code.functions.clear()
        self.assertEqual(run_blocks(code, [3, True], 50).seen(), wanted)


class Ends(Runs):
    def test_all_five_in_the_sample(self):
        # With the yes side 0 + 1 goes round: it is divided by 1, and 7 is put to it; so is 3 + 1, less 3 and by 4.
        self.seen(sample_code(), ("answer", ("num", 15), [1, 8], 3, 2 + 3 * 3 + 2 * 5 + 1), [0, True])
        self.seen(sample_code(), ("dry", None, [4, 7, 8], 3, 2 + 3 * 3 + 3 * 5 + 1), [3, True], 3)
        self.seen(sample_code(), ("answer", ("num", 0), [-1 + 1], 1, 2 + 3 + 3 + 1), [-1, True])
        # With the no side: f makes a record of which the second is handed on.
        self.seen(sample_code(), ("answer", ("num", 4), [True], 2, 2 + 1 + 3 + 4 + 1 + 1 + 2 + 1), [3, False])

    def test_a_jump_with_args(self):
        code = Code({"main": made([NUM, NUM], NUM,
                                  Block([0, 1], [], Jump((1, (n(1), num(4), n(0), n(1))))),
                                  Block([2, 3, 4, 5], [noted(n(2)), noted(n(3)), noted(n(4))], Back(n(5))))})
        self.seen(code, ("answer", ("num", 9), [9, 4, 8], 0, 5), [8, 9])

    def test_params_change_places_along_an_edge(self):
        # Thrice round: a, b, c become b, c, a, all at once.
        head = Block([4, 5, 6, 7], [TICK, noted(n(4)), Row(8, "less", None, [num(0), n(7)])],
                     Branch(n(8), (2, ()), (3, ())))
        turn = Block([], [Row(9, "sub", None, [n(7), num(1)])], Jump((1, (n(5), n(6), n(4), n(9)))))
        last = Block([], [noted(n(5)), noted(n(6))], Back(n(4)))
        begin = Block([0, 1, 2, 3], [], Jump((1, (n(0), n(1), n(2), n(3)))))
        code = Code({"main": made([NUM] * 4, NUM, begin, head, turn, last, n8=TRUTH)})
        self.seen(code, ("answer", ("num", 10), [10, 20, 30, 10, 20, 30], 4, 1 + 4 * 4 + 3 * 2 + 3), [10, 20, 30, 3])
        self.seen(code, ("answer", ("num", 20), [10, 20, 30, 10], 2, 1 + 2 * 4 + 2 + 3), [10, 20, 30, 1])

    def test_two_params_swapped(self):
        head = Block([3, 4, 5], [TICK], Branch(n(5), (1, (n(4), n(3), NO)), (2, ())))
        code = Code({"main": made([NUM, NUM, TRUTH], NUM, Block([0, 1, 2], [], Jump((1, (n(0), n(1), n(2))))), head,
                                  Block([], [noted(n(3))], Back(n(4))), n2=TRUTH, n5=TRUTH)})
        self.seen(code, ("answer", ("num", 1), [2], 2, 1 + 2 + 2 + 2), [1, 2, True])
        self.seen(code, ("answer", ("num", 2), [1], 1, 1 + 2 + 2), [1, 2, False])

    def test_both_sides_of_a_branch(self):
        code = Code({"main": made([TRUTH, NUM], NUM,
                                  Block([0, 1], [], Branch(n(0), (1, (n(1), num(5))), (1, (num(6), n(1))))),
                                  Block([2, 3], [noted(n(2))], Back(n(3))), n0=TRUTH)})
        self.seen(code, ("answer", ("num", 5), [8], 0, 3), [True, 8])
        self.seen(code, ("answer", ("num", 8), [6], 0, 3), [False, 8])
        fixed = Code({"main": made([], NUM, Block([], [], Branch(NO, (1, ()), (2, ()))), Block([], [], Back(num(1))),
                                   Block([], [], Back(num(2))))})
        self.seen(fixed, ("answer", ("num", 2), [], 0, 2))

    def test_a_raise_is_caught_by_nobody_here(self):
        self.seen(single([noted(num(1))], Raise("oops")), ("fault", "oops", [1], 0, 2))
        self.seen(single([], Raise("zero")), ("fault", "zero", [], 0, 1))


class Risks(Runs):
    def risk(self, op, asked, takes, gives, *catches, **kinds):
        """Main does one risk; its edge hands 70 behind the result, a catch hands 80, 81 and so on."""
        count = len(takes)
        result, behind, caught = n(count), count + 1, count + 2
        return Code({"main": made(takes, gives,
                                  Block(range(count), [], Risk(op, None, asked, (1, (num(70),)), [
                                      (fault, (2, (num(80 + place),))) for place, fault in enumerate(catches)])),
                                  Block([count, behind], [noted(n(behind))], Back(result)),
                                  *([Block([caught], [noted(n(caught))], Raise("late"))] if catches else []), **kinds)})

    def test_each_that_does_well(self):
        for op, one, other, result in [("mul", 6, -7, -42), ("div", -7, 2, -4), ("mod", -7, 2, 1), ("div", 7, 2, 3)]:
            for catches in [(), ("great", "zero", "range")]:
                self.seen(self.risk(op, [n(0), n(1)], [NUM, NUM], NUM, *catches),
                          ("answer", ("num", result), [70], 0, 3), [one, other])
        self.seen(self.risk("pick", [n(0), n(1)], [WIDE, NUM], NUM, n0=WIDE),
                  ("answer", ("num", 6), [70], 0, 3), [(4, 5, 6), 2])
        self.seen(self.risk("lay", [n(0), n(1), num(9)], [WIDE, NUM], WIDE, n0=WIDE, n2=WIDE),
                  ("answer", (("num", 4), ("num", 9), ("num", 6)), [70], 0, 3), [(4, 5, 6), 1])

    def test_each_that_faults(self):
        great = 10 ** 30
        for op, takes, inputs, fault in [
            ("mul", [NUM, NUM], [great, great], "great"), ("div", [NUM, NUM], [1, 0], "zero"),
            ("mod", [NUM, NUM], [0, 0], "zero"), ("pick", [WIDE, NUM], [(1, 2, 3), 3], "range"),
            ("pick", [WIDE, NUM], [(1, 2, 3), -1], "range"), ("lay", [WIDE, NUM], [(1, 2, 3), -1], "range"),
        ]:
            asked = [n(0), n(1)] + [num(9)] * (op == "lay")
            kinds = {"n0": takes[0], "n2": WIDE if op == "lay" else NUM}
            gives = kinds["n2"]
            self.seen(self.risk(op, asked, takes, gives, **kinds), ("fault", fault, [], 0, 1), inputs)
            others = [other for other in ["great", "zero", "range", "oops"] if other != fault]
            self.seen(self.risk(op, asked, takes, gives, *others, **kinds), ("fault", fault, [], 0, 1), inputs)
            for place in range(4):
                catches = others[:place] + [fault] + others[place:]
                self.seen(self.risk(op, asked, takes, gives, *catches, **kinds),
                          ("fault", "late", [80 + place], 0, 3), inputs)

    def test_a_fault_that_is_raised_behind_a_catch_is_not_caught_again(self):
        code = Code({"main": made([], NUM, Block([], [], Risk("div", None, [num(1), num(0)], (1, ()),
                                                              [("zero", (2, ()))])),
                                  Block([0], [], Back(n(0))), Block([], [], Raise("zero")))})
        self.seen(code, ("fault", "zero", [], 0, 2))

    def test_args_of_a_catch_are_read_as_they_are_at_the_risk(self):
        head = Block([1, 2], [TICK], Risk("div", None, [num(12), n(1)], (2, (n(2),)), [("zero", (3, (n(1), n(2))))]))
        turn = Block([3, 4], [Row(5, "sub", None, [n(1), num(1)])], Jump((1, (n(5), n(3)))))
        code = Code({"main": made([NUM], NUM, Block([0], [], Jump((1, (n(0), num(0))))), head, turn,
                                  Block([6, 7], [noted(n(6))], Back(n(7))))})
        self.seen(code, ("answer", ("num", 12), [0], 4, 1 + 4 * 2 + 3 * 2 + 2), [3])


class Calls(Runs):
    def deep_code(self, *catches):
        """main calls a, which calls b, which calls c; c raises oops or lost, or divides 12 by what it takes."""
        def caller(called, *caught):
            return made([NUM], NUM, Block([0], [noted(n(0))], Risk("call", called, [n(0)], (1, (n(0),)), [
                (fault, (2, (num(90 + place),))) for place, fault in enumerate(caught)])),
                Block([1, 2], [Row(3, "add", None, [n(1), n(2)])], Back(n(3))),
                *([Block([4], [noted(n(4))], Back(num(-1)))] if caught else []))
        c = made([NUM], NUM, Block([0], [Row(1, "less", None, [n(0), num(0)])], Branch(n(1), (1, ()), (2, ()))),
                 Block([], [Row(2, "same", None, [n(0), num(-1)])], Branch(n(2), (3, ()), (4, ()))),
                 Block([], [], Risk("div", None, [num(12), n(0)], (5, ()), [])), Block([], [], Raise("oops")),
                 Block([], [], Raise("lost")), Block([3], [], Back(n(3))), n1=TRUTH, n2=TRUTH)
        return Code({"main": caller("a", *catches), "a": caller("b", "oops"), "b": caller("c", "zero", "end"), "c": c})

    def test_answers(self):
        self.seen(self.deep_code(), ("answer", ("num", 4 + 9), [3, 3, 3], 3, 3 * 2 + 2 + 1 + 1 + 3 * 2), [3])

    def test_faults_from_several_functions_beneath(self):
        # zero is caught by b, oops by a, lost by main or by nobody.
        self.seen(self.deep_code("lost"), ("answer", ("num", -1), [0, 0, 0, 90], 3, 6 + 3 + 2 + 4), [0])
        self.seen(self.deep_code("lost"), ("answer", ("num", -2), [-1, -1, -1, 90], 3, 6 + 5 + 2 + 2), [-1])
        self.seen(self.deep_code("zero", "lost"), ("answer", ("num", -1), [-2, -2, -2, 91], 3, 6 + 5 + 2), [-2])
        self.seen(self.deep_code(), ("fault", "lost", [-2, -2, -2], 3, 6 + 5), [-2])
        self.seen(self.deep_code("oops", "zero"), ("fault", "lost", [-2, -2, -2], 3, 6 + 5), [-2])

    def test_each_call_has_its_own_names(self):
        # f(x) logs x behind the call of itself with x - 1.
        f = made([NUM], NUM, Block([0], [Row(1, "less", None, [num(0), n(0)])], Branch(n(1), (1, ()), (3, (num(0),)))),
                 Block([], [Row(2, "sub", None, [n(0), num(1)])], Risk("call", "f", [n(2)], (2, (n(2),)), [])),
                 Block([3, 4], [noted(n(4)), Row(5, "add", None, [n(3), n(0)])], Jump((3, (n(5),)))),
                 Block([6], [noted(n(0))], Back(n(6))), n1=TRUTH)
        main = made([NUM], NUM, Block([0], [], Risk("call", "f", [n(0)], (1, ()), [])), Block([1], [], Back(n(1))))
        self.seen(Code({"f": f, "main": main}),
                  ("answer", ("num", 6), [0, 0, 1, 1, 2, 2, 3], 4, 1 + 3 * 4 + 2 + 2 + 3 * (3 + 2) + 1), [3])

    def test_main_may_be_called(self):
        main = made([NUM], NUM, Block([0], [Row(1, "less", None, [n(0), num(2)])], Branch(n(1), (1, ()), (2, ()))),
                    Block([], [], Back(num(5))),
                    Block([], [Row(2, "sub", None, [n(0), num(1)])], Risk("call", "main", [n(2)], (3, ()), [])),
                    Block([3], [Row(4, "add", None, [n(3), num(1)])], Back(n(4))), n1=TRUTH)
        self.seen(Code({"main": main}), ("answer", ("num", 7), [], 2, 2 * (4 + 2) + 3), [3])

    def deep(self, end):
        """deep(x) calls itself with x less 1 until 0, where it ends so; each adds 1 to what comes."""
        deep = made([NUM], NUM, Block([0], [Row(1, "same", None, [n(0), num(0)])], Branch(n(1), (1, ()), (2, ()))),
                    Block([], [], end),
                    Block([], [Row(2, "sub", None, [n(0), num(1)])],
                          Risk("call", "deep", [n(2)], (3, ()), [("other", (1, ()))])),
                    Block([3], [Row(4, "add", None, [n(3), num(1)])], Back(n(4))), n1=TRUTH)
        main = made([NUM], NUM, Block([0], [], Risk("call", "deep", [n(0)], (1, ()), [])),
                    Block([1], [], Back(n(1))))
        return Code({"main": main, "deep": deep})

    def test_two_thousand_deep_and_more(self):
        for depth in [2000, 5000, 9999]:
            self.seen(self.deep(Back(num(0))),
                      ("answer", ("num", depth), [], depth + 1, 2 + 3 + 6 * depth), [depth], 10000)
            self.seen(self.deep(Raise("oops")), ("fault", "oops", [], depth + 1, 1 + 3 + 4 * depth), [depth], 10000)
        self.seen(self.deep(Back(num(0))), ("dry", None, [], 10000, 1 + 4 * 10000), [10000], 10000)
        self.seen(self.deep(Back(num(0))), ("dry", None, [], 10000, 1 + 4 * 10000), [-1], 10000)


class Ticks(Runs):
    def rounds(self):
        """Logs its param, takes a tick and logs again, as many times as are asked."""
        head = Block([1], [noted(n(1)), TICK, noted(num(-1)), Row(2, "sub", None, [n(1), num(1)]),
                           Row(3, "less", None, [num(0), n(2)])], Branch(n(3), (1, (n(2),)), (2, ())))
        return Code({"main": made([NUM], NUM, Block([0], [], Jump((1, (n(0),)))), head, Block([], [], Back(n(2))),
                                  n3=TRUTH)})

    def test_dry_just_at_a_tick_row(self):
        self.seen(self.rounds(), ("dry", None, [3], 0, 1 + 2), [3], 0)
        self.seen(self.rounds(), ("dry", None, [3, -1, 2], 1, 1 + 6 + 2), [3], 1)
        self.seen(self.rounds(), ("dry", None, [3, -1, 2, -1, 1], 2, 1 + 12 + 2), [3], 2)

    def test_just_as_many_as_the_budget(self):
        self.seen(self.rounds(), ("answer", ("num", 0), [3, -1, 2, -1, 1, -1], 3, 1 + 18 + 1), [3], 3)
        self.seen(self.rounds(), ("answer", ("num", 0), [1, -1], 1, 1 + 6 + 1), [1], 1)
        self.seen(single([], Back(num(1))), ("answer", ("num", 1), [], 0, 1), budget=0)

    def test_dry_just_at_a_call(self):
        f = made([], NUM, Block([], [noted(num(7)), TICK, noted(num(8))], Back(num(1))))
        main = made([], NUM, Block([], [noted(num(1))], Risk("call", "f", [], (1, ()), [("end", (2, ()))])),
                    Block([0], [noted(num(2))], Risk("call", "f", [], (3, ()), [])), Block([], [], Back(num(-1))),
                    Block([1], [noted(num(3))], Back(n(1))))
        code = Code({"f": f, "main": main})
        self.seen(code, ("dry", None, [1], 0, 2), budget=0)
        self.seen(code, ("dry", None, [1, 7], 1, 2 + 2), budget=1)
        self.seen(code, ("dry", None, [1, 7, 8, 2], 2, 2 + 4 + 2), budget=2)
        self.seen(code, ("dry", None, [1, 7, 8, 2, 7], 3, 2 + 4 + 2 + 2), budget=3)
        self.seen(code, ("answer", ("num", 1), [1, 7, 8, 2, 7, 8, 3], 4, 2 + 4 + 2 + 4 + 2), budget=4)

    def test_several_tick_rows_in_a_block(self):
        code = single([TICK, noted(num(1)), TICK, TICK, noted(num(2))], Back(num(3)))
        self.seen(code, ("dry", None, [], 0, 1), budget=0)
        self.seen(code, ("dry", None, [1], 1, 3), budget=1)
        self.seen(code, ("dry", None, [1], 2, 4), budget=2)
        self.seen(code, ("answer", ("num", 3), [1, 2], 3, 6), budget=3)

    def test_nothing_else_takes_one(self):
        rows = [Row(name, "add", None, [num(1), num(2)]) for name in range(50)]
        self.seen(single(rows, Raise("oops")), ("fault", "oops", [], 0, 51), budget=0)
        risk = Code({"main": made([], NUM, Block([], [], Risk("div", None, [num(1), num(0)], (1, ()),
                                                              [("zero", (1, (num(4),)))])),
                                  Block([0], [], Back(n(0))))})
        self.seen(risk, ("answer", ("num", 4), [], 0, 2), budget=0)

    def test_dry_ends_it_whatever_is_caught(self):
        f = made([], NUM, Block([], [TICK], Raise("dry")))
        main = made([], NUM, Block([], [], Risk("call", "f", [], (1, ()), [("dry", (1, (num(5),)))])),
                    Block([0], [], Back(n(0))))
        code = Code({"f": f, "main": main})
        self.seen(code, ("dry", None, [], 1, 2), budget=1)
        self.seen(code, ("answer", ("num", 5), [], 2, 4), budget=2)


class ByChance(unittest.TestCase):
    def test_as_another_runner(self):
        came = {}
        for seed in range(700):
            sower = Sower(seed, size=60)
            code = sown_code(sower)
            takes = next(head[1] for head in sower.heads if head[0] == "main")
            inputs = [sower.value(kind) for text, kind in takes]
            for budget in [0, 1, 2, 5, 40]:
                run = run_blocks(code, inputs, budget)
                oracle = BlockOracle(code, budget)
                self.assertEqual((shown(run.seen()), run.steps), (shown(oracle.run(inputs)), oracle.steps), seed)
                self.assertLessEqual(run.steps, code.width() * (run.took + 1))
                came[run.ending] = came.get(run.ending, 0) + 1
            if run.ending != "dry":
                self.assertEqual(run_blocks(code, inputs, run.took).seen(), run.seen())
                if run.took > 0:
                    self.assertEqual(run_blocks(code, inputs, run.took - 1).ending, "dry")
            if run.ending == "answer":
                self.assertTrue(is_value(oracle.answer, code.functions["main"].gives))
        self.assertGreater(min(came[ending] for ending in ["answer", "fault", "dry"]), 300, came)


if __name__ == "__main__":
    unittest.main()
