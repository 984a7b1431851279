"""Points 2, 4, 5 and 40 to 45: the runner of the source."""

import copy
import sys
import unittest

from eachstepsame.kinds import is_value
from eachstepsame.sourcerun import run_source, source_width
from eachstepsame.typer import Typed, typed
from tests.helper import (
    NO, NUM, TRUTH, YES, Sower, back, below, call, choice, do, fails, field, fun, index, let, log, loop, main, name,
    new, num, one, put, row, setat, setfield, shown, trying, two,
)

POINT = ("point", (("left", NUM), ("right", TRUTH)))
DOWN = two("-", name("n"), num(1))
ZERO = two("=", name("n"), num(0))


def ran(program, inputs=(), budget=100):
    return run_source(typed(program), list(inputs), budget)


class Runs(unittest.TestCase):
    def seen(self, program, wanted, inputs=(), budget=100):
        """What is seen, with ticks and steps: (ending, thing, values logged, ticks, steps)."""
        tree = typed(program)
        handed, kept = list(inputs), shown(tree.functions)
        run = run_source(tree, handed, budget)
        logged = [value for word, value in run.log]
        self.assertEqual(shown((run.ending, run.thing, logged, run.took, run.steps)), shown(wanted), program)
        self.assertEqual(run.seen(), (run.ending, run.thing, tuple(run.log), run.took))
        self.assertLessEqual(run.steps, source_width(tree) * (run.took + 1))
        self.assertEqual(handed, list(inputs))
        self.assertEqual(shown(tree.functions), kept)
        self.assertEqual(run_source(tree, handed, budget).seen(), run.seen())

    def answers(self, program, value, inputs=()):
        run = ran(program, inputs)
        self.assertEqual(shown((run.ending, run.thing)), shown(("answer", value)))


class Functions(Runs):
    def test_an_answer_of_each_kind(self):
        self.seen(main(back(num(7))), ("answer", ("num", 7), [], 0, 2))
        self.seen(((), (fun("main", [], TRUTH, back(YES)),)), ("answer", ("truth", True), [], 0, 2))
        self.seen(((), (fun("main", [], ("row", 2), back(row(num(1), num(0)))),)),
                  ("answer", (("num", 1), ("num", 0)), [], 0, 4))
        self.seen(((POINT,), (fun("main", [], ("named", "point"), back(new("point", num(1), YES))),)),
                  ("answer", (("num", 1), ("truth", True)), [], 0, 4))

    def test_takes_have_the_inputs_in_order(self):
        takes = [("a", NUM), ("b", ("row", 2)), ("c", TRUTH), ("d", ("named", "point"))]
        rows = [log(name("a")), log(index(name("b"), num(1))), log(name("c")), log(field(name("d"), "left")),
                log(field(name("d"), "right")), back(name("d"))]
        self.seen(((POINT,), (fun("main", takes, ("named", "point"), *rows),)),
                  ("answer", (("num", 4), ("truth", True)), [1, 3, False, 4, True], 0, 2 + 4 + 2 + 3 + 3 + 2),
                  [1, (2, 3), False, (4, True)])

    def test_the_fault_end(self):
        self.seen(main(), ("fault", "end", [], 0, 0))
        self.seen(main(log(num(1))), ("fault", "end", [1], 0, 2))
        self.seen(main(choice(NO, [back(num(1))])), ("fault", "end", [], 0, 2))

    def test_the_fault_end_comes_at_the_call(self):
        f = fun("f", [], NUM, trying([log(num(1))], ("end", [back(num(5))])))
        self.seen(((), (f, fun("main", [], NUM, do(call("f")), back(num(2))))), ("fault", "end", [1], 1, 5))
        caught = fun("main", [], NUM, trying([do(call("f")), log(num(9))], ("end", [back(num(2))])))
        self.seen(((), (f, caught)), ("answer", ("num", 2), [1], 1, 8))

    def test_rows_behind_a_return_are_not_done(self):
        self.seen(main(back(num(1)), log(num(2)), back(num(3))), ("answer", ("num", 1), [], 0, 2))
        inner = choice(YES, [trying([loop(YES, back(num(1)), log(num(2)))], ("a", []))], [])
        self.seen(main(inner, log(num(3))), ("answer", ("num", 1), [], 1, 7))

    def test_calls(self):
        double = fun("double", [("x", NUM)], NUM, log(name("x")), back(two("+", name("x"), name("x"))))
        program = ((), (fun("main", [("x", NUM)], NUM,
                            let("y", call("double", two("+", call("double", name("x")), num(1)))),
                            back(two("-", name("y"), name("x")))), double))
        self.seen(program, ("answer", ("num", 23), [7, 15], 2, 5 + 6 + 1 + 6 + 4), [7])

    def test_arguments_in_order(self):
        f = fun("f", [("a", NUM), ("b", NUM), ("c", TRUTH)], NUM,
                choice(name("c"), [back(two("-", name("a"), name("b")))]), back(num(0)))
        self.answers(((), (fun("main", [], NUM, back(call("f", num(9), num(4), YES))), f)), ("num", 5))

    def test_functions_that_call_one_another(self):
        even = fun("even", [("n", NUM)], TRUTH, choice(ZERO, [back(YES)]), back(call("odd", DOWN)))
        odd = fun("odd", [("n", NUM)], TRUTH, choice(ZERO, [back(NO)]), back(call("even", DOWN)))
        start = fun("main", [("n", NUM)], TRUTH, back(call("even", name("n"))))
        for n in range(6):
            run = ran(((), (even, odd, start)), [n])
            self.assertEqual(run.seen(), ("answer", ("truth", n % 2 == 0), (), n + 1))

    def test_each_call_has_its_own_names(self):
        f = fun("f", [("n", NUM)], NUM,
                let("x", name("n")),
                choice(two("<", num(0), name("n")), [do(call("f", DOWN))]),
                log(name("x")), log(name("n")), put("x", num(50)), back(name("x")))
        self.seen(((), (fun("main", [("n", NUM), ("x", NUM)], NUM, do(call("f", name("n"))), back(name("x"))), f)),
                  ("answer", ("num", 8), [0, 0, 1, 1, 2, 2], 3, 3 + 11 + 11 + 6 + 3 * 8 + 2), [2, 8])

    def test_values_never_change(self):
        change = fun("change", [("r", ("row", 2)), ("p", ("named", "point"))], NUM,
                     setat("r", num(0), num(70)), setfield("p", "left", num(80)),
                     log(index(name("r"), num(0))), log(field(name("p"), "left")), back(num(0)))
        start = fun("main", [("r", ("row", 2)), ("p", ("named", "point"))], NUM,
                    let("s", name("r")), let("q", name("p")),
                    do(call("change", name("r"), name("p"))),
                    setat("r", num(1), num(5)), setfield("p", "right", NO),
                    log(index(name("s"), num(0))), log(index(name("s"), num(1))), log(index(name("r"), num(0))),
                    log(index(name("r"), num(1))), log(field(name("q"), "left")), log(field(name("q"), "right")),
                    log(field(name("p"), "left")), log(field(name("p"), "right")), back(num(0)))
        run = ran(((POINT,), (change, start)), [(1, 2), (3, True)])
        self.assertEqual(shown([value for word, value in run.log]),
                         shown([70, 80, 1, 2, 1, 5, 3, True, 3, False]))

    def test_two_thousand_deep_and_more(self):
        deep = fun("deep", [("n", NUM)], NUM, choice(ZERO, [back(num(0))]),
                   back(two("+", num(1), call("deep", DOWN))))
        program = ((), (deep, fun("main", [("n", NUM)], NUM, back(call("deep", name("n"))))))
        for n in [2000, 9999]:
            run = ran(program, [n], 10000)
            self.assertEqual(run.seen(), ("answer", ("num", n), (), n + 1))
        run = ran(program, [10000], 10000)
        self.assertEqual(run.seen(), ("dry", None, (), 10000))
        self.assertEqual(ran(program, [-1], 10000).seen(), ("dry", None, (), 10000))

    def test_a_fault_out_of_the_deep(self):
        deep = fun("deep", [("n", NUM)], NUM, choice(ZERO, [fails("oops")]),
                   trying([back(call("deep", DOWN))], ("other", [])))
        caught = fun("main", [("n", NUM)], NUM, trying([do(call("deep", name("n")))], ("oops", [back(num(3))])))
        self.assertEqual(ran(((), (deep, caught)), [5000], 10000).seen(), ("answer", ("num", 3), (), 5001))
        lost = fun("main", [("n", NUM)], NUM, do(call("deep", name("n"))))
        self.assertEqual(ran(((), (deep, lost)), [5000], 10000).seen(), ("fault", "oops", (), 5001))


class Rows(Runs):
    def test_let_and_set(self):
        self.seen(main(let("x", num(1)), log(name("x")), put("x", two("+", name("x"), num(4))), log(name("x")),
                       back(name("x"))), ("answer", ("num", 5), [1, 5], 0, 12))

    def test_a_let_in_a_loop_begins_anew(self):
        self.seen(main(let("i", num(0)),
                       loop(two("<", name("i"), num(3)),
                            let("x", num(10)), put("x", two("+", name("x"), name("i"))), log(name("x")),
                            put("i", two("+", name("i"), num(1)))),
                       let("x", NO), log(name("x")), back(name("i"))),
                  ("answer", ("num", 3), [10, 11, 12, False], 4, 2 + 1 + 4 * 3 + 3 * 12 + 6))

    def test_if(self):
        for test, wanted in [(YES, 1), (NO, 2)]:
            self.seen(main(choice(test, [log(num(1))], [log(num(2))]), back(num(3))),
                      ("answer", ("num", 3), [wanted], 0, 6))
        self.seen(main(choice(YES, [], [log(num(2))]), back(num(3))), ("answer", ("num", 3), [], 0, 4))

    def test_while(self):
        self.seen(main(loop(NO, log(num(1))), back(num(3))), ("answer", ("num", 3), [], 1, 4))
        self.seen(main(let("i", num(2)), loop(two("<", num(0), name("i")), put("i", two("-", name("i"), num(1)))),
                       back(name("i"))), ("answer", ("num", 0), [], 3, 2 + 1 + 3 * 3 + 2 * 4 + 2))

    def test_log(self):
        run = ran(main(log(num(1)), log(YES), log(num(0)), log(NO), log(two("-", num(1), num(9)))))
        self.assertEqual(shown(run.log), shown(
            [("num", 1), ("truth", True), ("num", 0), ("truth", False), ("num", -8)]))

    def test_do(self):
        f = fun("f", [], NUM, log(num(1)), back(num(2)))
        self.seen(((), (f, fun("main", [], NUM, do(call("f")), do(call("f")), back(num(0))))),
                  ("answer", ("num", 0), [1, 1], 2, 14))

    def test_a_place_of_a_row_set(self):
        rows = [let("r", row(num(1), num(2), num(3))), setat("r", num(1), num(9)), back(name("r"))]
        self.seen(((), (fun("main", [], ("row", 3), *rows),)),
                  ("answer", (("num", 1), ("num", 9), ("num", 3)), [], 0, 5 + 5 + 2))

    def test_a_range_fault_where_a_place_is_set(self):
        shout = fun("shout", [("n", NUM)], NUM, log(name("n")), back(name("n")))
        for place in [-1, 2, 3]:
            start = fun("main", [("k", NUM)], ("row", 2),
                        let("r", row(num(1), num(2))),
                        trying([setat("r", call("shout", name("k")), call("shout", num(9))), log(num(77))],
                               ("range", [log(index(name("r"), num(0)))])),
                        back(name("r")))
            self.seen(((), (shout, start)), (
                "answer", (("num", 1), ("num", 2)), [place, 9, 1], 2, 4 + 1 + (3 + 2 + 4 + 2 + 4) + 4 + 2), [place])

    def test_a_place_of_a_row_set_in_order(self):
        bad, worse = fun("bad", [], NUM, fails("bad")), fun("worse", [], NUM, fails("worse"))
        start = [let("r", row(num(1)))]
        for rows, fault in [
            ([setat("r", call("bad"), call("worse"))], "bad"), ([setat("r", num(5), call("worse"))], "worse"),
        ]:
            program = ((), (bad, worse, fun("main", [], NUM, *(start + rows))))
            self.assertEqual(ran(program).seen()[:2], ("fault", fault))

    def test_what_is_laid_is_reckoned_of_the_old_row(self):
        rows = [let("r", row(num(4), num(5))), setat("r", num(0), two("+", index(name("r"), num(0)), num(1))),
                back(name("r"))]
        self.answers(((), (fun("main", [], ("row", 2), *rows),)), (("num", 5), ("num", 5)))

    def test_a_field_set(self):
        rows = [let("p", new("point", num(1), NO)), setfield("p", "right", YES), setfield("p", "left", num(6)),
                back(name("p"))]
        self.seen(((POINT,), (fun("main", [], ("named", "point"), *rows),)),
                  ("answer", (("num", 6), ("truth", True)), [], 0, 4 + 4 + 4 + 2))

    def test_raise(self):
        self.seen(main(log(num(1)), fails("oops"), log(num(2))), ("fault", "oops", [1], 0, 3))
        self.seen(main(fails("zero")), ("fault", "zero", [], 0, 1))


class Faults(Runs):
    def test_a_try_without_a_fault(self):
        self.seen(main(trying([log(num(1))], ("oops", [log(num(2))])), back(num(3))),
                  ("answer", ("num", 3), [1], 0, 5))

    def test_caught(self):
        self.seen(main(trying([log(num(1)), fails("oops"), log(num(2))],
                              ("other", [log(num(3))]), ("oops", [log(num(4)), log(num(5))]), ("third", [log(num(6))])),
                       back(num(7))), ("answer", ("num", 7), [1, 4, 5], 0, 10))

    def test_not_caught(self):
        self.seen(main(trying([fails("oops")], ("other", [log(num(3))])), back(num(7))), ("fault", "oops", [], 0, 2))

    def test_behind_the_try_it_catches_no_more(self):
        self.seen(main(trying([log(num(1))], ("oops", [log(num(2))])), fails("oops")), ("fault", "oops", [1], 0, 4))

    def test_a_fault_in_a_catch_is_none_of_this_try(self):
        inner = trying([fails("oops")], ("oops", [log(num(1)), fails("oops")]), ("other", [log(num(2))]))
        self.seen(main(inner), ("fault", "oops", [1], 0, 5))
        self.seen(main(trying([inner], ("oops", [log(num(3)), back(num(4))]))),
                  ("answer", ("num", 4), [1, 3], 0, 10))
        other = trying([fails("oops")], ("oops", [fails("other")]), ("other", [log(num(2))]))
        self.seen(main(other), ("fault", "other", [], 0, 3))

    def test_the_innermost_try_that_has_a_catch_of_the_name(self):
        inner = trying([fails("oops")], ("other", [log(num(1))]))
        middle = trying([inner, log(num(2))], ("oops", [log(num(3))]), ("other", [log(num(4))]))
        self.seen(main(trying([middle], ("oops", [log(num(5))])), back(num(6))),
                  ("answer", ("num", 6), [3], 0, 8))

    def test_each_operations_fault(self):
        great = num(10 ** 20 - 1)
        product = two("*", two("*", great, great), great)
        for bad, fault in [
            (product, "great"), (two("/", num(1), num(0)), "zero"), (two("mod", num(1), num(0)), "zero"),
            (index(row(num(1)), num(1)), "range"), (index(row(num(1)), one("-", num(1))), "range"),
        ]:
            self.assertEqual(ran(main(log(num(1)), do(bad), log(num(2)))).seen(), ("fault", fault, (("num", 1),), 0))
            catches = [(text, [log(num(number))]) for number, text in enumerate(["great", "zero", "range"])]
            run = ran(main(trying([back(bad)], *catches), back(num(9))))
            self.assertEqual([value for word, value in run.log], [["great", "zero", "range"].index(fault)])
            self.assertEqual(run.ending, "answer")

    def test_a_fault_out_of_a_function(self):
        bad = fun("bad", [("n", NUM)], NUM, log(num(1)), trying([do(two("/", num(1), name("n")))], ("oops", [])),
                  back(num(5)))
        caught = fun("main", [("n", NUM)], NUM,
                     trying([log(call("bad", name("n"))), log(num(2))], ("zero", [log(num(3))])), back(num(4)))
        self.seen(((), (bad, caught)), ("answer", ("num", 4), [1, 5, 2], 1, 17), [1])
        self.seen(((), (bad, caught)), ("answer", ("num", 4), [1, 3], 1, 15), [0])
        self.seen(((), (bad, fun("main", [], NUM, back(call("bad", num(0)))))), ("fault", "zero", [1], 1, 10))

    def test_a_try_of_the_caller_does_not_hold_for_what_comes_behind_the_call(self):
        good = fun("good", [], NUM, back(num(1)))
        rows = [trying([do(call("good"))], ("oops", [log(num(2))])), fails("oops")]
        self.assertEqual(ran(((), (good, fun("main", [], NUM, *rows)))).seen(), ("fault", "oops", (), 1))

    def test_names_keep_what_they_had_when_the_fault_came(self):
        self.seen(main(let("x", num(1)),
                       trying([put("x", num(2)), put("x", two("/", num(3), num(0))), put("x", num(4))],
                              ("zero", [log(name("x")), put("x", two("+", name("x"), num(5)))])),
                       back(name("x"))), ("answer", ("num", 7), [2], 0, 2 + 1 + 2 + 4 + 2 + 4 + 2))

    def test_half_reckoned_expressions_are_left(self):
        bad = two("+", num(1), two("+", num(2), two("/", num(3), num(0))))
        self.seen(main(loop(YES, trying([log(bad)], ("zero", [log(num(4)), back(two("-", num(9), num(2)))])))),
                  ("answer", ("num", 7), [4], 1, 1 + 1 + 1 + 1 + 7 + 2 + 4))

    def test_a_catch_in_a_loop(self):
        self.seen(main(let("i", num(0)),
                       loop(two("<", name("i"), num(2)),
                            put("i", two("+", name("i"), num(1))),
                            trying([fails("oops")], ("oops", [log(name("i"))]))),
                       back(name("i"))), ("answer", ("num", 2), [1, 2], 3, 2 + 1 + 9 + 2 * 8 + 2))

    def test_a_return_in_a_try_and_in_a_catch(self):
        self.seen(main(trying([back(num(1))], ("oops", [back(num(2))]))), ("answer", ("num", 1), [], 0, 3))
        self.seen(main(trying([fails("oops")], ("oops", [back(num(2))]))), ("answer", ("num", 2), [], 0, 4))

    def test_a_let_of_a_try_is_let_anew_in_its_catch(self):
        self.seen(main(trying([let("x", num(1)), fails("a")], ("a", [let("x", YES), log(name("x"))])), back(num(0))),
                  ("answer", ("num", 0), [True], 0, 10))


class Expressions(Runs):
    def test_operators(self):
        for op, wanted in [("+", 10), ("-", -4), ("*", 21), ("/", 0), ("mod", 3)]:
            self.answers(main(back(two(op, num(3), num(7)))), ("num", wanted))
        for op, wanted in [("<", True), ("=", False)]:
            self.answers(((), (fun("main", [], TRUTH, back(two(op, num(3), num(7)))),)), ("truth", wanted))
        for op, table in [("and", [0, 0, 0, 1]), ("or", [0, 1, 1, 1])]:
            found = []
            for left in [NO, YES]:
                for right in [NO, YES]:
                    found.append(ran(((), (fun("main", [], TRUTH, back(two(op, left, right))),))).thing[1])
            self.assertEqual(found, [bool(value) for value in table])
        self.answers(main(back(one("-", num(3)))), ("num", -3))
        self.answers(((), (fun("main", [], TRUTH, back(one("not", YES))),)), ("truth", False))
        self.answers(main(back(two("/", one("-", num(7)), num(2)))), ("num", -4))
        self.answers(main(back(two("mod", one("-", num(7)), num(2)))), ("num", 1))

    def test_rows_and_records(self):
        self.answers(main(back(index(row(num(4), num(5), num(6)), num(2)))), ("num", 6))
        program = ((POINT,), (fun("main", [], TRUTH, back(field(new("point", num(1), YES), "right"))),))
        self.answers(program, ("truth", True))

    def test_both_sides_of_and_and_or(self):
        shout = fun("shout", [("n", NUM), ("t", TRUTH)], TRUTH, log(name("n")), back(name("t")))
        for op, left in [("and", NO), ("or", YES), ("and", YES), ("or", NO)]:
            rows = [do(two(op, call("shout", num(1), left), call("shout", num(2), YES))), back(num(0))]
            run = ran(((), (shout, fun("main", [], NUM, *rows))))
            self.assertEqual(run.seen(), ("answer", ("num", 0), (("num", 1), ("num", 2)), 2))
            faulty = [do(two(op, left, two("=", num(1), two("/", num(1), num(0)))))]
            self.assertEqual(ran(main(*faulty)).seen()[:2], ("fault", "zero"))

    def test_from_the_left_to_the_right(self):
        shout = fun("shout", [("n", NUM)], NUM, log(name("n")), back(name("n")))
        first, second, third = [call("shout", num(place)) for place in range(3)]
        three = fun("three", [("a", NUM), ("b", NUM), ("c", NUM)], NUM, log(num(7)), back(num(0)))
        for node, wanted in [
            (two("+", first, two("-", second, third)), [0, 1, 2]),
            (two("*", two("/", first, second), third), [0, 1, 2]),
            (row(first, second, third), [0, 1, 2]), (index(row(first, second), third), [0, 1, 2]),
            (call("three", first, second, third), [0, 1, 2, 7]),
            (field(new("trio", first, second, third), "b"), [0, 1, 2]),
        ]:
            program = ((("trio", (("a", NUM), ("b", NUM), ("c", NUM))),), (
                shout, three, fun("main", [], NUM, do(node), back(num(0)))))
            self.assertEqual([value for word, value in ran(program).log], wanted)

    def test_a_part_may_change_nothing_that_was_reckoned(self):
        # What a name had is taken when the name is reckoned, and calls have names of their own.
        f = fun("f", [("x", NUM)], NUM, put("x", num(100)), back(name("x")))
        start = fun("main", [("x", NUM)], NUM, back(two("-", name("x"), call("f", name("x")))))
        self.answers(((), (f, start)), ("num", -99), [1])

    def test_the_first_fault_goes(self):
        self.assertEqual(ran(main(do(two("+", two("/", num(1), num(0)), index(row(num(1)), num(4)))))).thing, "zero")
        self.assertEqual(ran(main(do(two("+", index(row(num(1)), num(4)), two("/", num(1), num(0)))))).thing, "range")


class Dry(Runs):
    COUNT = main(let("i", num(0)), loop(two("<", name("i"), num(3)), put("i", two("+", name("i"), num(1)))),
                 back(name("i")))

    def test_just_as_many_as_the_budget_tells(self):
        self.seen(self.COUNT, ("answer", ("num", 3), [], 4, 29), budget=4)
        self.seen(self.COUNT, ("dry", None, [], 3, 2 + 1 + 3 * 7), budget=3)
        self.seen(self.COUNT, ("dry", None, [], 0, 3), budget=0)

    def test_a_tick_is_taken_ahead_of_the_condition(self):
        shout = fun("shout", [], TRUTH, log(num(1)), back(NO))
        program = ((), (shout, fun("main", [], NUM, loop(call("shout")), back(num(2)))))
        self.seen(program, ("answer", ("num", 2), [1], 2, 8), budget=2)
        self.seen(program, ("dry", None, [], 1, 2), budget=1)
        self.seen(program, ("dry", None, [], 0, 1), budget=0)

    def test_a_tick_is_taken_behind_the_arguments(self):
        shout = fun("shout", [("n", NUM)], NUM, log(name("n")), back(name("n")))
        program = ((), (shout, fun("main", [], NUM, back(call("shout", call("shout", num(4)))))))
        self.seen(program, ("answer", ("num", 4), [4, 4], 2, 12), budget=2)
        self.seen(program, ("dry", None, [4], 1, 8), budget=1)
        self.seen(program, ("dry", None, [], 0, 4), budget=0)

    def test_an_argument_that_faults_takes_no_tick(self):
        f = fun("f", [("n", NUM)], NUM, back(name("n")))
        program = ((), (f, fun("main", [], NUM, do(call("f", two("/", num(1), num(0)))))))
        self.seen(program, ("fault", "zero", [], 0, 5), budget=0)

    def test_main_begins_without_a_tick_but_not_when_it_is_called(self):
        self.seen(main(back(num(1))), ("answer", ("num", 1), [], 0, 2), budget=0)
        program = ((), (fun("main", [("n", NUM)], NUM, choice(ZERO, [back(num(5))]), back(call("main", DOWN))),))
        self.seen(program, ("answer", ("num", 5), [], 2, 4 + 5 + 4 + 5 + 6), [2], 2)
        self.seen(program, ("dry", None, [], 1, 4 + 5 + 4 + 5), [2], 1)

    def test_dry_is_no_fault(self):
        inner = trying([loop(YES)], ("dry", [log(num(1))]), ("end", [log(num(2))]))
        self.seen(main(inner, back(num(1))), ("dry", None, [], 7, 9), budget=7)

    def test_dry_in_the_deep(self):
        f = fun("f", [], NUM, log(num(1)), back(call("f")))
        self.seen(((), (f, fun("main", [], NUM, back(call("f"))))), ("dry", None, [1] * 5, 5, 22), budget=5)

    def test_every_budget(self):
        for budget in range(8):
            run = ran(self.COUNT, [], budget)
            self.assertEqual(run.seen(), ("answer", ("num", 3), (), 4) if budget >= 4 else ("dry", None, (), budget))


class Width(Runs):
    def test_the_greatest_function(self):
        small = fun("a", [("x", NUM)], NUM, back(name("x")))
        great = fun("b", [], NUM, let("r", row(num(1), num(2))), setat("r", num(0), two("+", num(1), num(2))),
                    choice(YES, [log(num(1)), fails("a")], [loop(NO, do(call("a", num(3))))]),
                    trying([log(YES)], ("x", [log(NO), fails("y")]), ("z", [])))
        start = fun("main", [], NUM)
        self.assertEqual(source_width(typed(((), (small, start)))), 2)
        wide = 4 + (3 + 1 + 3) + (2 + 3 + 5) + (1 + 2 + 3)
        for functions in [(small, great, start), (start, small, great), (great, start, small)]:
            self.assertEqual(source_width(typed(((), functions))), wide)

    def test_nothing_at_all(self):
        self.assertEqual(source_width(typed(main())), 0)

    def test_a_field_set_is_three_and_its_value(self):
        program = ((POINT,), (fun("main", [("p", ("named", "point"))], NUM, setfield("p", "left", num(1))),))
        self.assertEqual(source_width(typed(program)), 4)

    def test_steps_may_come_to_the_width(self):
        program = main(log(num(1)), back(two("+", num(1), num(2))))
        self.assertEqual((source_width(typed(program)), ran(program).steps), (6, 6))

    def test_made_by_hand(self):
        tree = Typed({"main": ((("a", NUM),), NUM, (("return", ("op", "neg", None, (("local", "a", NUM),), NUM)),))})
        self.assertEqual(source_width(tree), 3)
        self.assertEqual(run_source(tree, [4], 0).seen(), ("answer", ("num", -4), (), 0))


class WhatIsHandedIn(unittest.TestCase):
    def test_the_log_is_the_askers_own(self):
        tree = typed(main(log(num(1)), back(num(2))))
        run = run_source(tree, [], 5)
        run.log.clear()
        self.assertEqual(run.seen(), ("answer", ("num", 2), (("num", 1),), 0))
        self.assertEqual(run_source(tree, [], 5).log, [("num", 1)])

    def test_the_tree_stays_though_its_field_is_emptied(self):
        tree = typed(main(back(num(2))))
        tree.functions.clear()
        self.assertEqual(run_source(tree, [], 5).seen(), ("answer", ("num", 2), (), 0))
        self.assertEqual(source_width(tree), 2)

    def test_inputs_stay(self):
        program = ((), (fun("main", [("r", ("row", 2))], ("row", 2), setat("r", num(0), num(9)), back(name("r"))),))
        inputs = [(1, 2)]
        kept = copy.deepcopy(inputs)
        self.assertEqual(run_source(typed(program), inputs, 0).thing, (("num", 9), ("num", 2)))
        self.assertEqual(inputs, kept)


class Came(Exception):
    pass


class Left(Exception):
    pass


class Dried(Exception):
    pass


class Oracle:
    """Runs the tree as it was handed in, by Python's own calls and errors; records are dicts here."""

    def __init__(self, program, budget):
        self.records = dict(program[0])
        self.functions = {function[1]: function for function in program[1]}
        self.budget, self.took, self.steps, self.log = budget, 0, 0, []

    def run(self, inputs):
        takes, gives = self.functions["main"][2:4]
        try:
            value = self.function("main", [self.inward(value, take[1]) for value, take in zip(inputs, takes)])
            seen = ("answer", self.outward(value))
        except Came as came:
            seen = ("fault", came.args[0])
        except Dried:
            seen = ("dry", None)
        return seen + (tuple(self.log), self.took), self.steps

    def inward(self, value, kind):
        return dict(zip([text for text, part in self.records[kind[1]]], value)) if kind[0] == "named" else value

    def outward(self, value):
        if isinstance(value, dict):
            value = tuple(value.values())
        if isinstance(value, tuple):
            return tuple(self.outward(part) for part in value)
        return ("truth" if isinstance(value, bool) else "num", value)

    def tick(self):
        if self.took == self.budget:
            raise Dried()
        self.took += 1

    def function(self, text, values):
        function = self.functions[text]
        there = dict(zip([take[0] for take in function[2]], values))
        try:
            self.rows(function[4], there)
        except Left as left:
            return left.args[0]
        raise Came("end")

    def rows(self, rows, there):
        for line in rows:
            self.steps += 1
            self.row(line, there)

    def row(self, line, there):
        word = line[0]
        if word in ("let", "set"):
            there[line[1]] = self.reckon(line[2], there)
        elif word == "setat":
            self.steps += 2
            place, value = self.reckon(line[2], there), self.reckon(line[3], there)
            old = list(there[line[1]])
            if place not in range(len(old)):
                raise Came("range")
            old[place] = value
            there[line[1]] = tuple(old)
        elif word == "setfield":
            self.steps += 2
            there[line[1]] = {**there[line[1]], line[2]: self.reckon(line[3], there)}
        elif word == "if":
            self.rows(line[2] if self.reckon(line[1], there) else line[3], there)
        elif word == "while":
            self.tick()
            while self.reckon(line[1], there):
                self.rows(line[2], there)
                self.tick()
        elif word == "log":
            self.log.append(self.outward(self.reckon(line[1], there)))
        elif word == "do":
            self.reckon(line[1], there)
        elif word == "return":
            raise Left(self.reckon(line[1], there))
        elif word == "raise":
            raise Came(line[1])
        else:
            self.trying(line, there)

    def trying(self, line, there):
        try:
            self.rows(line[1], there)
        except Came as came:
            if came.args[0] not in dict(line[2]):
                raise
            caught = dict(line[2])[came.args[0]]
        else:
            caught = ()
        self.rows(caught, there)

    def reckon(self, node, there):
        self.steps += 1
        word = node[0]
        if word in ("num", "truth"):
            return node[1]
        if word == "name":
            return there[node[1]]
        parts = [self.reckon(part, there) for part in below(node)]
        if word == "call":
            self.tick()
            return self.function(node[1], parts)
        if word == "new":
            return dict(zip([text for text, kind in self.records[node[1]]], parts))
        if word == "row":
            return tuple(parts)
        if word == "field":
            return parts[0][node[2]]
        if word == "index":
            if parts[1] not in range(len(parts[0])):
                raise Came("range")
            return parts[0][parts[1]]
        if word == "one":
            return -parts[0] if node[1] == "-" else not parts[0]
        return self.of_two(node[1], parts[0], parts[1])

    def of_two(self, op, left, right):
        if op in ("/", "mod") and right == 0:
            raise Came("zero")
        if op == "*" and len(str(abs(left * right))) > 50:
            raise Came("great")
        table = {
            "+": lambda: left + right, "-": lambda: left - right, "*": lambda: left * right, "/": lambda: left // right,
            "mod": lambda: left - right * (left // right), "<": lambda: left < right, "=": lambda: left == right,
            "and": lambda: left and right, "or": lambda: left or right,
        }
        return table[op]()


class ByChance(unittest.TestCase):
    def setUp(self):
        self.limit = sys.getrecursionlimit()
        sys.setrecursionlimit(6000)

    def tearDown(self):
        sys.setrecursionlimit(self.limit)

    def test_as_the_tree_that_was_handed_in(self):
        came = {}
        for seed in range(1500):
            sower = Sower(seed, size=60)
            program = sower.program()
            tree = typed(program)
            takes, gives = next(head[1:] for head in sower.heads if head[0] == "main")
            inputs = [sower.value(kind) for text, kind in takes]
            for budget in [0, 1, 2, 5, 40]:
                run = run_source(tree, inputs, budget)
                self.assertEqual((shown(run.seen()), run.steps), self.told(program, inputs, budget), (seed, budget))
                self.assertLessEqual(run.steps, source_width(tree) * (run.took + 1))
                came[run.ending] = came.get(run.ending, 0) + 1
            self.at_its_ticks(tree, inputs, run, seed)
            if run.ending == "answer":
                self.assertTrue(is_value(untagged(run.thing), tree.functions["main"][1]))
        self.assertGreater(min(came[ending] for ending in ["answer", "fault", "dry"]), 500, came)

    def told(self, program, inputs, budget):
        seen, steps = Oracle(program, budget).run(inputs)
        return shown(seen), steps

    def at_its_ticks(self, tree, inputs, run, seed):
        if run.ending != "dry":
            self.assertEqual(run_source(tree, inputs, run.took).seen(), run.seen(), seed)
            if run.took > 0:
                short = run_source(tree, inputs, run.took - 1)
                self.assertEqual((short.ending, short.thing, short.took), ("dry", None, run.took - 1))
                self.assertEqual(short.log, run.log[:len(short.log)])


def untagged(thing):
    if len(thing) == 2 and thing[0] in ("num", "truth"):
        return thing[1]
    return tuple(untagged(part) for part in thing)


if __name__ == "__main__":
    unittest.main()
