"""Points 2 to 5 and 140 to 144: the machine, run."""

import copy
import unittest

from eachstepsame.allot import allotted
from eachstepsame.blockrun import run_blocks
from eachstepsame.blocks import Back, Block, Branch, Code, Jump, Raise, Risk, Row
from eachstepsame.errors import NoBudget, NoInput
from eachstepsame.kinds import tagged
from eachstepsame.machinerun import run_machine
from eachstepsame.machines import Machine
from eachstepsame.passes import all_titles, chain
from eachstepsame.runs import Run
from eachstepsame.table import holds
from tests.helper import (
    FLAG, NO, NUM, TICK, TRUTH, YES, Drawer, MachineOracle, Sower, add, made, n, neg, noted, num, refusal, sample_code,
    shown, sown_code, things,
)

R0, R1, R2 = [("reg", number) for number in range(3)]
F0, F1, F2, F3 = [("frame", number) for number in range(4)]


class Runs(unittest.TestCase):
    def seen(self, functions, wanted, inputs=(), budget=100):
        """(ending, thing, values logged, ticks, steps)"""
        machine = functions if isinstance(functions, Machine) else Machine(functions)
        kept, handed = shown(machine.told()), list(inputs)
        run = run_machine(machine, handed, budget)
        self.assertIsInstance(run, Run)
        self.assertIs(run.log.__class__, list)
        logged = [value for word, value in run.log]
        self.assertEqual(shown((run.ending, run.thing, logged, run.took, run.steps)), shown(wanted))
        self.assertEqual(run.seen(), (run.ending, run.thing, tuple(run.log), run.took))
        self.assertLessEqual(run.steps, machine.width() * (run.took + 1))
        self.assertEqual((handed, shown(machine.told())), (list(inputs), kept))
        again = run_machine(machine, handed, budget)
        self.assertEqual((again.seen(), again.steps), (run.seen(), run.steps))
        oracle = MachineOracle(machine, budget)
        self.assertEqual(shown((oracle.run(handed), oracle.steps)), shown((run.seen(), run.steps)))
        return run

    def one(self, rows, end, wanted, inputs=(), frame=4, budget=100):
        self.seen({"main": (len(inputs), frame, ((rows, end),))}, wanted, inputs, budget)


class Starts(unittest.TestCase):
    MACHINE = Machine({"main": (2, 2, (((), ("back", F0)),)), "f": (1, 1, (((), ("back", F0)),))})
    NONE = Machine({"main": (0, 0, (((), ("back", num(1))),))})

    def asked(self, machine, inputs, budget):
        kept = copy.deepcopy((inputs, budget))
        told = refusal(run_machine, machine, inputs, budget)
        self.assertEqual(shown((inputs, budget)), shown(kept))
        return told

    def test_inputs(self):
        for thing in things():
            for budget in [0, 5, -1, None, True, 10001, "5", []]:
                for machine, count in [(self.MACHINE, 2), (self.NONE, 0)]:
                    if not isinstance(thing, list) or len(thing) != count:
                        self.assertEqual(self.asked(machine, thing, budget), ("NoInput", None), thing)
        for inputs in [[1], [1, 2, 3], (1, 2), {0: 1, 1: 2}, "ab", {}, None, 2, True, [[1, 2]], ([1], [2])]:
            self.assertEqual(self.asked(self.MACHINE, inputs, 5), ("NoInput", None))
        self.assertEqual(self.asked(self.NONE, (), 5), ("NoInput", None))

    def test_inputs_that_fit(self):
        for inputs in [[1, 2], [True, False], [(1, 2), (True,)], [-1, (0, 0, 0, 0, 0, 0)]]:
            self.assertIsNone(self.asked(self.MACHINE, inputs, 5))
        self.assertIsNone(self.asked(self.NONE, [], 5))

    def test_budgets(self):
        for thing in things() + [9999, 10000, 10001, -1]:
            good = thing.__class__ is int and 0 <= thing <= 10000
            self.assertEqual(self.asked(self.MACHINE, [1, 2], thing), None if good else ("NoBudget",), thing)
            self.assertEqual(self.asked(self.NONE, [], thing), None if good else ("NoBudget",), thing)

    def test_classes(self):
        with self.assertRaises(NoInput) as caught:
            run_machine(self.MACHINE, [], None)
        self.assertIsNone(caught.exception.place)
        with self.assertRaises(NoBudget):
            run_machine(self.NONE, [], 10001)

    def test_main_of_several_functions(self):
        self.assertEqual(self.asked(self.MACHINE, [1], 3), ("NoInput", None))
        self.assertEqual(run_machine(self.MACHINE, [7, 8], 0).seen(), ("answer", num(7), (), 0))


class Rows(Runs):
    def test_answers_of_each_kind(self):
        for value in [1, 0, True, False, -5, (1, 2), (True, 1), (0,), (False,), 10 ** 50 - 1]:
            self.one((), ("back", F0), ("answer", tagged(value), [], 0, 1), [value])
        self.one((), ("back", num(-3)), ("answer", num(-3), [], 0, 1))
        self.one((), ("back", NO), ("answer", NO, [], 0, 1))

    def test_takes_stand_in_the_frame_in_order(self):
        for place in range(4):
            self.one((), ("back", ("frame", place)), ("answer", num(place + 10), [], 0, 1), [10, 11, 12, 13])

    def test_ops(self):
        rows = (("op", R0, "add", None, (F0, num(5))), ("op", R1, "sub", None, (R0, F1)),
                ("op", F2, "neg", None, (R1,)), ("op", F3, "less", None, (F2, num(0))), ("log", R0), ("log", R1), ("log", F2), ("log", F3),
                ("op", R0, "make", FLAG, (F3, F2)), ("op", R1, "get", 1, (R0,)), ("op", R2, "put", 0, (R0, NO)))
        self.one(rows, ("back", R2), ("answer", (NO, num(-5)), [7, 5, -5, True], 0, 12), [2, 2])

    def test_an_op_may_write_where_it_reads(self):
        rows = (("op", F0, "add", None, (F0, F0)),) * 3
        self.one(rows, ("back", F0), ("answer", num(24), [], 0, 4), [3])
        self.one((("op", R0, "copy", None, (F0,)), ("op", R0, "sub", None, (num(1), R0))), ("back", R0),
                 ("answer", num(-2), [], 0, 3), [3])

    def test_moves(self):
        rows = (("move", R0, F0), ("move", F0, F1), ("move", F1, R0), ("log", F0), ("log", F1), ("move", R1, YES),
                ("move", F3, R1), ("log", F3), ("move", F3, num(4)), ("log", F3), ("log", R1))
        self.one(rows, ("back", R0), ("answer", num(1), [2, 1, True, 4, True], 0, 12), [1, 2])

    def test_registers_and_places_of_a_frame_are_apart(self):
        rows = (("move", R0, num(1)), ("move", F0, num(2)), ("move", R1, num(3)), ("move", F1, num(4)))
        self.one(rows + tuple(("log", place) for place in [R0, F0, R1, F1]), ("back", R0),
                 ("answer", num(1), [1, 2, 3, 4], 0, 9))

    def test_logs(self):
        run = run_machine(Machine({"main": (1, 1, (((("log", F0), ("log", YES), ("log", num(1))), ("back", F0)),))}),
                          [1], 0)
        self.assertEqual(shown(run.log), shown([num(1), YES, num(1)]))
        kept = run.seen()
        run.log.clear()
        self.assertEqual(run.seen(), kept)

    def test_fields_that_were_emptied(self):
        machine = Machine({"main": (0, 0, (((), ("back", num(1))),))})
        machine.functions.clear()
        self.seen(machine, ("answer", num(1), [], 0, 1))

    def test_a_frame_of_very_many_places(self):
        last = ("frame", 10 ** 50)
        self.one((("move", last, F0),), ("back", last), ("answer", num(5), [], 0, 2), [5], frame=10 ** 50 + 1)


class Ends(Runs):
    def test_jumps_and_branches(self):
        blocks = (((), ("branch", F0, 1, 2)), ((("log", num(1)),), ("jump", 3)), ((), ("raise", "oops")),
                  ((), ("back", F0)))
        self.seen({"main": (1, 1, blocks)}, ("answer", YES, [1], 0, 4), [True])
        self.seen({"main": (1, 1, blocks)}, ("fault", "oops", [], 0, 2), [False])
        for test, thing in [(YES, 1), (NO, 2)]:
            blocks = (((), ("branch", test, 1, 2)), ((), ("back", num(1))), ((), ("back", num(2))))
            self.seen({"main": (0, 0, blocks)}, ("answer", num(thing), [], 0, 2))

    def test_loops(self):
        blocks = (((("move", R0, F0),), ("jump", 1)),
                  ((("tick",), ("op", R1, "less", None, (num(0), R0))), ("branch", R1, 2, 3)),
                  ((("log", R0), ("op", R0, "sub", None, (R0, num(1)))), ("jump", 1)), ((), ("back", R0)))
        self.seen({"main": (1, 1, blocks)}, ("answer", num(0), [3, 2, 1], 4, 24), [3])
        self.seen({"main": (1, 1, blocks)}, ("answer", num(0), [3, 2, 1], 4, 24), [3], 4)
        self.seen({"main": (1, 1, blocks)}, ("dry", None, [3, 2, 1], 3, 21), [3], 3)
        self.seen({"main": (1, 1, blocks)}, ("dry", None, [], 0, 3), [3], 0)

    def test_risks(self):
        for op, sources, thing in [
            ("mul", (num(6), F0), num(30)), ("div", (num(-7), num(2)), num(-4)), ("mod", (num(-7), num(2)), num(1)),
            ("pick", (F1, num(1)), num(8)), ("lay", (F1, num(0), F0), (num(5), num(8))),
        ]:
            for place in [R0, F0, F1, F3]:
                blocks = (((), ("risk", op, None, sources, place, 2, ())), ((), ("raise", "no")), ((), ("back", place)))
                self.seen({"main": (2, 4, blocks)}, ("answer", thing, [], 0, 2), [5, (7, 8)])

    def test_risks_that_fault(self):
        great = num(10 ** 30)
        for op, sources, fault in [
            ("mul", (great, great), "great"), ("div", (F0, num(0)), "zero"), ("mod", (F0, num(0)), "zero"),
            ("pick", (F1, num(2)), "range"), ("lay", (F1, num(-1), F0), "range"),
        ]:
            for catches, wanted in [
                ((), ("fault", fault, [], 0, 1)), ((("oops", 2),), ("fault", fault, [], 0, 1)),
                (((fault, 2),), ("answer", num(5), [], 0, 2)),
                ((("oops", 1), (fault, 2)), ("answer", num(5), [], 0, 2)),
                (((fault, 3), ("oops", 2)), ("fault", "no", [], 0, 2)),
            ]:
                # Where it faults nothing is put into its place.
                blocks = (((), ("risk", op, None, sources, F0, 1, catches)), ((), ("back", num(1))), ((), ("back", F0)),
                          ((), ("raise", "no")))
                self.seen({"main": (2, 4, blocks)}, wanted, [5, (7, 8)])

    def test_a_raise_is_caught_by_nobody_here(self):
        blocks = (((), ("risk", "div", None, (num(1), num(0)), R0, 1, (("zero", 1),))), ((), ("raise", "zero")))
        self.seen({"main": (0, 0, blocks)}, ("fault", "zero", [], 0, 2))

    def test_registers_stay_over_a_risk_that_is_no_call(self):
        blocks = (((("move", R1, num(9)),), ("risk", "div", None, (num(8), F0), R0, 1, (("zero", 2),))),
                  ((("log", R0),), ("back", R1)), ((), ("back", R1)))
        self.seen({"main": (1, 1, blocks)}, ("answer", num(9), [4], 0, 4), [2])
        self.seen({"main": (1, 1, blocks)}, ("answer", num(9), [], 0, 3), [0])


class Calls(Runs):
    def called(self, catches=(), more=()):
        """Main calls f, which calls g with one more; g raises of 0, divides by 1 less, and else gives ten times."""
        main = (1, 2, (((("move", F1, num(70)),), ("risk", "call", "f", (F0,), R0, 1, catches)),
                       ((("log", R0), ("log", F1)), ("back", F0)), ((("log", F1),), ("back", num(-1)))) + more)
        f = (1, 1, (((("op", R0, "add", None, (F0, num(1))),), ("risk", "call", "g", (R0,), F0, 1, (("far", 1),))),
                    ((), ("back", F0))))
        g = (1, 3, (((("op", F1, "same", None, (F0, num(0))),), ("branch", F1, 1, 2)), ((), ("raise", "oops")),
                    ((("op", R0, "sub", None, (F0, num(1))),), ("risk", "div", None, (num(100), R0), R1, 3, ())),
                    ((("op", R0, "add", None, (F0, R1)),), ("back", R0))))
        return {"main": main, "f": f, "g": g}

    def test_answers(self):
        self.seen(self.called(), ("answer", num(4), [30, 70], 2, 14), [4])
        self.seen(self.called(), ("answer", num(-3), [-36, 70], 2, 14), [-3])

    def test_faults(self):
        for catches, given, wanted in [
            ((), -1, ("fault", "oops", [], 2, 7)), ((), 0, ("fault", "zero", [], 2, 8)),
            ((("oops", 2),), -1, ("answer", num(-1), [70], 2, 9)), ((("oops", 2),), 0, ("fault", "zero", [], 2, 8)),
            ((("zero", 2),), -1, ("fault", "oops", [], 2, 7)),
            ((("oops", 2), ("zero", 2)), 0, ("answer", num(-1), [70], 2, 10)),
            ((("zero", 3), ("oops", 2)), -1, ("answer", num(-1), [70], 2, 9)),
        ]:
            self.seen(self.called(catches, (((), ("raise", "no")),)), wanted, [given])

    def test_a_fault_that_is_caught_on_the_way(self):
        functions = self.called((("oops", 2),))
        f = (1, 1, (((), ("risk", "call", "g", (num(0),), R0, 1, (("zero", 1), ("oops", 2)))), ((), ("back", num(5))),
                    ((("log", F0),), ("raise", "oops"))))
        self.seen({**functions, "f": f}, ("answer", num(-1), [4, 70], 2, 10), [4])

    def test_dry_at_a_call(self):
        self.seen(self.called(), ("dry", None, [], 0, 2), [4], 0)
        self.seen(self.called((("zero", 2),)), ("dry", None, [], 1, 4), [4], 1)
        self.seen(self.called(), ("answer", num(4), [30, 70], 2, 14), [4], 2)

    def test_results_at_any_place(self):
        for place in [R0, R1, F0, F1]:
            main = (1, 2, (((), ("risk", "call", "f", (F0,), place, 1, ())), ((), ("back", place))))
            f = (1, 1, (((("op", F0, "neg", None, (F0,)),), ("back", F0)),))
            self.seen({"main": main, "f": f}, ("answer", num(-6), [], 1, 4), [6])

    def test_each_call_has_a_frame_of_its_own(self):
        main = (1, 3, (((("move", F1, num(1)), ("move", F2, num(2))), ("risk", "call", "f", (F2, F1), R0, 1, ())),
                       ((("log", F0), ("log", F1), ("log", F2)), ("back", R0))))
        f = (2, 3, (((("log", F0), ("log", F1), ("move", F0, num(8)), ("move", F1, num(8)), ("move", F2, num(8))),
                     ("back", F2)),))
        self.seen({"main": main, "f": f}, ("answer", num(8), [2, 1, 0, 1, 2], 1, 13), [0])

    def test_registers_are_lost_with_each_beginning_and_each_end(self):
        # No table holds for these: what is read was lost, so there is nothing to be read.
        back = (((), ("back", num(1))),)
        keep = (("move", R1, num(7)),)
        fails = (((), ("raise", "oops")),)
        catch = (("oops", 1),)
        for functions in [
            # A register of the caller, read by the function that was called.
            {"main": (0, 0, ((keep, ("risk", "call", "f", (), R0, 1, ())), back[0])),
             "f": (0, 0, (((("log", R1),), ("back", num(1))),))},
            # One of the caller, read behind the call; behind one that fails, too.
            {"main": (0, 0, ((keep, ("risk", "call", "f", (), R0, 1, ())), ((), ("back", R1)))), "f": (0, 0, back)},
            {"main": (0, 0, ((keep, ("risk", "call", "f", (), R0, 1, catch)), ((), ("back", R1)))), "f": (0, 0, fails)},
            # One of the function that was called, read behind the call; behind one that fails, too.
            {"main": (0, 0, (((), ("risk", "call", "f", (), R0, 1, ())), ((), ("back", R1)))),
             "f": (0, 0, ((keep, ("back", num(1))),))},
            {"main": (0, 0, (((), ("risk", "call", "f", (), R0, 1, catch)), ((), ("back", R1)))),
             "f": (0, 0, ((keep, ("raise", "oops")),))},
            # A place of the frame of another call.
            {"main": (0, 2, (((("move", F1, num(3)),), ("risk", "call", "f", (), R0, 1, ())), ((), ("back", F1)))),
             "f": (0, 2, (((), ("back", F1)),))},
        ]:
            with self.assertRaises(LookupError):
                run_machine(Machine(functions), [], 5)

    def test_deep(self):
        down = (1, 2, (((("op", R0, "same", None, (F0, num(0))),), ("branch", R0, 1, 2)), ((), ("back", num(0))),
                       ((("op", R0, "sub", None, (F0, num(1))),), ("risk", "call", "main", (R0,), R1, 3, ())),
                       ((("op", R0, "add", None, (R1, num(1))),), ("back", R0))))
        for depth in [1, 1000, 3000, 9999, 10000]:
            self.seen({"main": down}, ("answer", num(depth), [], depth, 3 + 6 * depth), [depth], 10000)
        self.seen({"main": down}, ("dry", None, [], 1500, 4 * 1501), [10000], 1500)

    def test_a_fault_out_of_the_deep(self):
        down = (1, 2, (((("op", R0, "same", None, (F0, num(0))),), ("branch", R0, 1, 2)), ((), ("raise", "oops")),
                       ((("op", R0, "sub", None, (F0, num(1))),), ("risk", "call", "f", (R0,), R1, 3, (("other", 3),))),
                       ((), ("back", F0))))
        main = (1, 1, (((), ("risk", "call", "f", (F0,), F0, 1, (("oops", 1),))), ((), ("back", F0))))
        self.seen({"main": main, "f": down}, ("answer", num(5000), [], 5001, 5000 * 4 + 5), [5000], 10000)
        main = (1, 1, (((), ("risk", "call", "f", (F0,), F0, 1, (("other", 1),))), ((), ("back", F0))))
        self.seen({"main": main, "f": down}, ("fault", "oops", [], 5001, 5000 * 4 + 4), [5000], 10000)


class Ticks(Runs):
    def test_each_takes_one(self):
        rows = (("tick",), ("log", num(1)), ("tick",), ("log", num(2)))
        self.one(rows, ("back", num(0)), ("answer", num(0), [1, 2], 2, 5))
        self.one(rows, ("back", num(0)), ("answer", num(0), [1, 2], 2, 5), budget=2)
        self.one(rows, ("back", num(0)), ("dry", None, [1], 1, 3), budget=1)
        self.one(rows, ("back", num(0)), ("dry", None, [], 0, 1), budget=0)

    def test_nothing_else_takes_one(self):
        rows = (("move", R0, num(1)), ("op", R1, "neg", None, (R0,)), ("log", R1))
        self.seen({"main": (0, 0, ((rows, ("risk", "mul", None, (R0, R1), R0, 1, ())), ((), ("jump", 2)),
                                   ((), ("branch", YES, 3, 3)), ((), ("raise", "oops"))))},
                  ("fault", "oops", [-1], 0, 7), budget=0)

    def test_what_is_asked_is_read_ahead_of_the_tick(self):
        # And the run is dry at the call, whatever it catches.
        blocks = (((), ("risk", "call", "main", (), R0, 1, (("dry", 1),))), ((), ("back", num(1))))
        for budget in [0, 1, 7]:
            self.seen({"main": (0, 0, blocks)}, ("dry", None, [], budget, budget + 1), budget=budget)

    def test_the_greatest_budget(self):
        blocks = (((("tick",),), ("branch", NO, 1, 1)), ((("tick",),), ("jump", 1)))
        self.seen({"main": (0, 0, blocks)}, ("dry", None, [], 10000, 20001), budget=10000)


class Same(unittest.TestCase):
    """As the blocks, where a table holds."""

    def same(self, code, k, inputs, budgets=(0, 1, 2, 3, 7, 30)):
        machine, table = allotted(code, k)
        self.assertTrue(holds(code, machine, table, k))
        endings = []
        for budget in budgets:
            run, ran = run_blocks(code, inputs, budget), run_machine(machine, inputs, budget)
            self.assertEqual(shown(ran.seen()), shown(run.seen()), (k, inputs, budget))
            self.assertLessEqual(ran.steps, machine.width() * (ran.took + 1))
            oracle = MachineOracle(machine, budget)
            self.assertEqual(shown((oracle.run(inputs), oracle.steps)), shown((ran.seen(), ran.steps)))
            endings.append(ran.ending)
        return endings

    def test_the_sample(self):
        for k in range(2, 9):
            for inputs in [[5, True], [0, True], [-1, True], [3, False], [12, True]]:
                self.same(sample_code(), k, inputs, range(12))

    def test_rings_and_results(self):
        args = (n(2), n(1), n(4), n(3))
        head = Block([1, 2, 3, 4], [TICK] + [noted(n(number)) for number in range(1, 5)],
                     Risk("mod", None, [n(1), n(2)], (2, args), [("zero", (3, ()))]))
        middle = Block([5, 6, 7, 8, 9], [add(10, n(5), n(9))], Jump((1, (n(9), n(10), n(6), n(7)))))
        code = Code({"main": made([NUM, NUM], NUM, Block([0, 20], [], Jump((1, (n(0), n(20), num(3), num(4))))), head,
                                  middle, Block([], [], Back(n(4))))})
        for k in range(2, 9):
            for inputs in [[7, 5], [0, 1], [5, 0], [-9, 4]]:
                self.same(code, k, inputs, range(10))

    def test_deep_calls(self):
        rows = [Row(1, "less", None, [n(0), num(1)])]
        call = Risk("call", "main", [n(2)], (3, (n(0),)), [("oops", (4, (n(0),)))])
        code = Code({"main": made([NUM], NUM, Block([0], rows, Branch(n(1), (1, ()), (2, ()))),
                                  Block([], [], Raise("oops")), Block([], [add(2, n(0), num(-1)), neg(6, n(0))], call),
                                  Block([3, 4], [add(5, n(3), n(4)), add(7, n(5), n(6))], Back(n(7))),
                                  Block([8], [], Back(n(8))), n1=TRUTH)})
        for k in [2, 5]:
            endings = self.same(code, k, [2000], [1999, 2000, 2001, 10000])
            self.assertEqual(endings, ["dry", "answer", "answer", "answer"])

    def test_budgets_at_which_it_gets_dry(self):
        for seed in range(40):
            sower = Sower(seed, size=80)
            code = sown_code(sower)
            takes = next(head[1] for head in sower.heads if head[0] == "main")
            self.same(code, 2 + seed % 7, [sower.value(kind) for text, kind in takes], range(15))

    def test_by_chance(self):
        came = {}
        for seed in range(250):
            drawer, sower = Drawer(seed, calls=0.5), Sower(seed, size=40 + seed % 90)
            takes = next(head[1] for head in sower.heads if head[0] == "main")
            for code, inputs in [(drawer.code(), drawer.inputs()),
                                 (sown_code(sower), [sower.value(kind) for text, kind in takes])]:
                for k in [2, 3 + seed % 6]:
                    for ending in self.same(code, k, inputs):
                        came[ending] = came.get(ending, 0) + 1
        self.assertGreater(min(came[ending] for ending in ["answer", "fault", "dry"]), 500, came)

    def test_behind_rewritings(self):
        for seed in range(60):
            drawer = Drawer(seed, calls=0.5)
            end, steps = chain(drawer.code(), all_titles())
            for title, form, paper in steps[::3] + [("", end, None)]:
                self.same(form, 2 + seed % 7, drawer.inputs(), [0, 2, 20])


if __name__ == "__main__":
    unittest.main()
