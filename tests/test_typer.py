"""Points 4, 5, 23 and 30 to 37: names and kinds, the refusals at their places, and what is told of a program."""

import copy
import unittest

from eachstepsame.errors import NoFit, NoMain, NoName, StepError, Twice
from eachstepsame.kinds import is_constant, is_kind
from eachstepsame.ops import result_kind
from eachstepsame.typer import Typed, typed
from tests.helper import (
    NO, NUM, TRUTH, YES, Sower, back, below, call, choice, do, fails, field, fun, index, let, log, loop, main, name,
    new, nodes, num, one, place_of, put, refusal, row, setat, setfield, shown, trying, two,
)

POINT = ("point", (("left", NUM), ("right", NUM)))
FLAG = ("flag", (("up", TRUTH), ("size", NUM)))
SPOT = ("spot", (("left", NUM), ("right", NUM)))
RECORDS = (POINT, FLAG, SPOT)
# One expression of each kind, each unlike all others, so that its place can be found.
OF_KIND = {
    NUM: num(901),
    TRUTH: one("not", two("<", num(902), num(903))),
    ("row", 2): row(num(904), num(905)),
    ("row", 3): row(num(906), num(907), num(908)),
    ("named", "point"): new("point", num(909), num(910)),
    ("named", "flag"): new("flag", YES, num(911)),
    ("named", "spot"): new("spot", num(912), num(913)),
}
HELPERS = (
    fun("twice", [("ha", NUM), ("hb", TRUTH)], NUM, back(name("ha"))),
    fun("wide", [("hp", ("named", "point")), ("hr", ("row", 2))], ("named", "point"), back(name("hp"))),
    fun("none", [], TRUTH, back(two("<", num(990), num(991)))),
)


def with_rows(*rows, gives=NUM, takes=()):
    return (RECORDS, HELPERS + (fun("main", takes, gives, *rows),))


class Refused(unittest.TestCase):
    def refused(self, program, error, *fields):
        kept = copy.deepcopy(program)
        with self.assertRaises(StepError) as caught:
            typed(program)
        self.assertIs(caught.exception.__class__, error, (program, vars(caught.exception)))
        self.assertEqual(tuple(vars(caught.exception).values()), fields, program)
        self.assertEqual(shown(program), shown(kept))

    def no_fit(self, program, wants, gives):
        """Both are nodes, of which each stands but once in the program."""
        self.refused(program, NoFit, place_of(program, wants), place_of(program, gives))

    def no_name(self, program, text, node):
        self.refused(program, NoName, text, place_of(program, node))

    def twice(self, program, text, node):
        self.refused(program, Twice, text, place_of(program, node))

    def let_by(self, program):
        self.assertIsInstance(typed(program), Typed)


class Heads(Refused):
    END = fun("main", [], NUM)

    def test_records_of_one_name(self):
        self.refused(((POINT, FLAG, ("point", (("a", TRUTH),))), (self.END,)), Twice, "point", 2)
        self.refused(((POINT, POINT, FLAG, FLAG), (self.END,)), Twice, "point", 1)

    def test_fields_of_one_name(self):
        self.refused(((POINT, ("bad", (("a", NUM), ("b", NUM), ("a", TRUTH)))), (self.END,)), Twice, "a", 1)
        self.refused(((("bad", (("a", NUM), ("b", NUM), ("b", NUM), ("a", NUM))),), (self.END,)), Twice, "b", 0)

    def test_a_field_may_be_called_like_its_record_and_like_those_of_another(self):
        self.let_by(((("a", (("a", NUM), ("b", TRUTH))), ("b", (("a", NUM), ("b", TRUTH)))), (self.END,)))

    def test_a_records_name_ahead_of_its_fields_and_records_in_order(self):
        bad = ("point", (("a", NUM), ("a", NUM)))
        self.refused(((POINT, bad), (self.END,)), Twice, "point", 1)
        self.refused(((("bad", (("a", NUM), ("a", NUM))), POINT, POINT), (self.END,)), Twice, "a", 0)

    def test_functions_of_one_name(self):
        first = fun("f", [], NUM, log(two("+", num(1), num(2))), back(num(3)))
        self.refused(((), (first, self.END, fun("f", [("a", TRUTH)], TRUTH))), Twice, "f", 8)
        self.refused((RECORDS, (first, self.END, self.END)), Twice, "main", 11)

    def test_takes(self):
        nowhere = ("named", "nowhere")
        self.refused((RECORDS, (self.END, fun("f", [("a", NUM), ("b", TRUTH), ("a", NUM)], NUM))), Twice, "a", 4)
        self.refused((RECORDS, (self.END, fun("f", [("a", nowhere)], NUM))), NoName, "nowhere", 4)
        self.refused((RECORDS, (fun("main", [], nowhere),)), NoName, "nowhere", 3)
        self.let_by((RECORDS, (fun("main", [("a", ("named", "spot"))], ("named", "flag")),)))

    def test_in_the_order_that_is_told(self):
        here, there = ("named", "here"), ("named", "there")
        both = fun("f", [("a", NUM), ("a", here)], there)
        self.refused(((), (self.END, both)), NoName, "here", 1)
        self.refused(((), (self.END, fun("f", [("a", NUM), ("a", NUM), ("b", here)], there))), Twice, "a", 1)
        self.refused(((), (self.END, fun("f", [("b", here), ("a", NUM), ("a", NUM)], there))), NoName, "here", 1)
        self.refused(((), (self.END, fun("f", [("a", NUM), ("a", NUM)], there))), Twice, "a", 1)
        self.refused(((), (self.END, fun("main", [("a", here)], NUM))), Twice, "main", 1)
        self.refused(((), (fun("f", [], here), self.END, fun("f", [], NUM))), NoName, "here", 0)
        self.refused(((POINT, POINT), (fun("f", [], here),)), Twice, "point", 1)

    def test_no_main(self):
        self.refused(((), ()), NoMain)
        self.refused((RECORDS, HELPERS), NoMain)
        self.refused(((("main", (("main", NUM),)),), (fun("f", [("main", NUM)], NUM, let("x", name("main"))),)), NoMain)

    def test_no_main_goes_behind_other_heads_and_ahead_of_bodies(self):
        self.refused(((), (fun("f", [], ("named", "here")),)), NoName, "here", 0)
        self.refused(((POINT, POINT), ()), Twice, "point", 1)
        self.refused(((), (fun("f", [], NUM, back(YES)),)), NoMain)

    def test_all_heads_go_ahead_of_all_bodies(self):
        self.refused(((), (fun("main", [], NUM, back(YES)), fun("f", [], NUM), fun("f", [], NUM))), Twice, "f", 4)

    def test_bodies_in_order(self):
        bad = fun("f", [], NUM, back(YES))
        self.refused(((), (bad, fun("main", [], NUM, do(name("x"))))), NoFit, 1, 2)
        self.refused(((), (fun("main", [], NUM, do(name("x"))), bad)), NoName, "x", 2)

    def test_heads_that_stand_behind_are_there(self):
        self.let_by(((), (fun("main", [], NUM, back(call("f"))), fun("f", [], NUM, back(call("main"))))))


class Names(Refused):
    def test_records_functions_and_other_names_are_apart(self):
        one_name = ("a", (("a", NUM),))
        kind = ("named", "a")
        self.let_by(((one_name,), (
            fun("a", [("a", kind)], kind, setfield("a", "a", field(name("a"), "a")), back(call("a", name("a")))),
            fun("main", [], kind, let("a", new("a", num(1))), let("main", num(2)), back(call("a", name("a")))),
        )))
        self.no_name(((one_name,), (fun("main", [], NUM, do(call("a", num(1)))),)), "a", call("a", num(1)))
        self.no_name(((one_name,), (fun("main", [], NUM, back(name("a"))),)), "a", name("a"))
        self.no_name(((one_name,), (fun("main", [], NUM, do(new("main"))),)), "main", new("main"))
        self.no_name(((), (fun("main", [("a", NUM)], NUM, do(call("a"))),)), "a", call("a"))

    def test_names_are_not_there(self):
        self.no_name(main(back(name("x"))), "x", name("x"))
        self.no_name(with_rows(do(name("a"))), "a", name("a"))
        self.no_name(with_rows(do(call("other", num(1)))), "other", call("other", num(1)))
        self.no_name(with_rows(do(new("other", num(1)))), "other", new("other", num(1)))

    def test_a_let_is_there_behind_its_row_alone(self):
        self.no_name(main(let("x", name("x"))), "x", name("x"))
        self.no_name(main(log(name("x")), let("x", num(1))), "x", name("x"))
        self.let_by(main(let("x", num(1)), log(name("x")), back(name("x"))))

    def test_a_let_is_gone_behind_its_rows(self):
        inner = [let("x", num(1)), put("x", num(2))]
        for rows in [
            choice(YES, inner), choice(YES, [], inner), loop(YES, *inner), trying(inner, ("oops", [])),
            trying([], ("oops", inner)), trying([], ("oops", inner), ("other", [])),
        ]:
            self.let_by(main(rows, let("x", YES), back(num(3))))
            self.no_name(main(rows, back(name("x"))), "x", name("x"))

    def test_sides_tries_and_catches_are_apart(self):
        inner, use = [let("x", num(1))], [log(name("x"))]
        for rows in [
            choice(YES, inner, use), trying(inner, ("oops", use)), trying([], ("oops", inner), ("other", use)),
        ]:
            self.no_name(main(rows), "x", name("x"))
        for rows in [
            choice(YES, inner, [let("x", YES)]), trying(inner, ("oops", [let("x", YES)])),
            trying([], ("oops", inner), ("other", [let("x", YES)])),
        ]:
            self.let_by(main(rows))

    def test_the_test_of_a_loop_does_not_have_what_is_let_in_it(self):
        self.no_name(main(loop(name("x"), let("x", YES))), "x", name("x"))

    def test_twice(self):
        self.twice(main(let("x", num(1)), let("x", num(2))), "x", let("x", num(2)))
        self.twice(main(let("x", num(1)), choice(YES, [], [let("x", YES)])), "x", let("x", YES))
        self.twice(main(let("x", num(1)), loop(YES, trying([], ("a", [let("x", YES)])))), "x", let("x", YES))
        self.twice(((), (fun("main", [("a", NUM)], NUM, let("a", num(1))),)), "a", let("a", num(1)))

    def test_twice_behind_the_value(self):
        self.no_name(main(let("x", num(1)), let("x", name("y"))), "y", name("y"))

    def test_outer_names_are_there_within(self):
        self.let_by(main(let("x", num(1)), loop(YES, choice(YES, [trying([log(name("x"))], ("a", [log(name("x"))]))]))))
        self.let_by(main(let("x", num(1)), loop(YES, put("x", num(2))), back(name("x"))))

    def test_takes_of_one_function_are_not_there_in_another(self):
        self.no_name(((), (fun("f", [("a", NUM)], NUM), fun("main", [], NUM, log(name("a"))))), "a", name("a"))

    def test_what_stands_behind_a_return_or_a_raise_is_looked_at(self):
        self.no_name(main(back(num(1)), log(name("x"))), "x", name("x"))
        self.no_name(main(fails("oops"), log(name("x"))), "x", name("x"))
        self.no_fit(main(back(num(1)), back(YES)), back(YES), YES)
        self.let_by(main(back(num(1)), let("x", num(2)), log(name("x"))))


class Expressions(Refused):
    def test_operators(self):
        for ops, part, other in [(["+", "-", "*", "/", "mod"], NUM, NUM), (["<", "="], NUM, TRUTH)] + [
                (["and", "or"], TRUTH, TRUTH)]:
            for op in ops:
                self.told_of_two(op, part, other)

    def told_of_two(self, op, part, gives):
        good = num(1) if part == NUM else YES
        told = typed(with_rows(back(two(op, good, good)), gives=gives)).functions["main"][2][0][1]
        self.assertEqual(told[4], gives)
        for kind, node in OF_KIND.items():
            if kind != part:
                for asking in [two(op, node, good), two(op, good, node)]:
                    self.no_fit(with_rows(do(asking)), asking, node)
            if kind != gives:
                self.refused(with_rows(back(two(op, good, good)), gives=kind), NoFit, 15, 16)
        for first, second in [(num(77), num(78)), (two("=", num(77), num(78)), two("=", num(79), num(80)))]:
            if (first[0] == "num") != (part == NUM):
                self.no_fit(with_rows(do(two(op, first, second))), two(op, first, second), first)

    def test_minus_and_not(self):
        for op, part in [("-", NUM), ("not", TRUTH)]:
            good = num(1) if part == NUM else YES
            told = typed(with_rows(back(one(op, good)), gives=part)).functions["main"][2][0][1]
            self.assertEqual(told[4], part)
            for kind, node in OF_KIND.items():
                if kind != part:
                    self.no_fit(with_rows(do(one(op, node))), one(op, node), node)

    def test_numbers_and_truths(self):
        self.refused(main(back(YES)), NoFit, 1, 2)
        self.refused(((), (fun("main", [], TRUTH, back(num(1))),)), NoFit, 1, 2)
        self.refused(((), (fun("main", [], TRUTH, back(num(0))),)), NoFit, 1, 2)

    def test_calls(self):
        for given, wrong in [((num(1), num(2)), 1), ((YES, NO), 0), ((row(num(1)), YES), 0)]:
            self.no_fit(with_rows(do(call("twice", *given))), call("twice", *given), given[wrong])
        both = call("twice", YES, num(1))
        self.no_fit(with_rows(do(both)), both, YES)
        spot, wide = OF_KIND["named", "spot"], OF_KIND["row", 3]
        self.no_fit(with_rows(do(call("wide", spot, wide))), call("wide", spot, wide), spot)
        point = OF_KIND["named", "point"]
        self.no_fit(with_rows(do(call("wide", point, wide))), call("wide", point, wide), wide)
        self.let_by(with_rows(back(call("wide", call("wide", point, OF_KIND["row", 2]), row(num(1), num(2)))),
                              gives=("named", "point")))

    def test_calls_of_too_few_and_too_many(self):
        for given in [(), (num(1),), (num(1), YES, num(2)), (YES,), (YES, num(1), num(1), num(1))]:
            self.no_fit(with_rows(do(call("twice", *given))), HELPERS[0], call("twice", *given))
        self.no_fit(with_rows(do(call("none", num(1)))), HELPERS[2], call("none", num(1)))

    def test_a_call_of_main_itself(self):
        self.refused(main(back(call("main", num(1)))), NoFit, 0, 2)
        self.let_by(main(back(call("main"))))

    def test_records_made(self):
        for given, wrong in [((num(1), num(2)), 0), ((YES, NO), 1), ((YES, row(num(1))), 1)]:
            self.no_fit(with_rows(do(new("flag", *given))), new("flag", *given), given[wrong])
        self.no_fit(with_rows(do(new("flag", num(1), YES))), new("flag", num(1), YES), num(1))

    def test_records_of_too_few_and_too_many(self):
        for given in [(), (YES,), (YES, num(1), num(1)), (num(1),)]:
            self.no_fit(with_rows(do(new("flag", *given))), FLAG, new("flag", *given))
        for given in [(), (num(1),), (num(1), num(2), num(3))]:
            self.refused(with_rows(do(new("spot", *given))), NoFit, 2, place_of(with_rows(), with_rows()[1][-1]) + 2)

    def test_rows_made(self):
        for kind, node in OF_KIND.items():
            if kind != NUM:
                for given in [(node,), (num(1), node), (num(1), num(2), num(3), num(4), num(5), node)]:
                    self.no_fit(with_rows(do(row(*given))), row(*given), node)
        self.no_fit(with_rows(do(row(num(1), YES, NO))), row(num(1), YES, NO), YES)
        for count in range(1, 7):
            self.let_by(((), (fun("main", [], ("row", count), back(row(*[num(1)] * count))),)))
            made = row(*[num(1)] * (count % 6 + 1))
            self.refused(((), (fun("main", [], ("row", count), back(made)),)), NoFit, 1, 2)

    def test_fields(self):
        for kind, node in OF_KIND.items():
            if kind[0] != "named":
                self.no_fit(with_rows(do(field(node, "left"))), field(node, "left"), node)
        point, flag = OF_KIND["named", "point"], OF_KIND["named", "flag"]
        for node, text in [(point, "up"), (point, "point"), (flag, "left")]:
            self.no_name(with_rows(do(field(node, text))), text, field(node, text))
        for node, text, kind in [(point, "right", NUM), (flag, "up", TRUTH), (flag, "size", NUM)]:
            self.let_by(with_rows(back(field(node, text)), gives=kind))
            other = TRUTH if kind == NUM else NUM
            self.no_fit(with_rows(back(field(node, text)), gives=other), back(field(node, text)), field(node, text))

    def test_a_field_of_what_is_no_record_is_no_fit_whatever_it_is_called(self):
        self.no_fit(with_rows(do(field(num(1), "nowhere"))), field(num(1), "nowhere"), num(1))

    def test_numbers_of_rows(self):
        for kind, node in OF_KIND.items():
            if kind[0] != "row":
                self.no_fit(with_rows(do(index(node, num(0)))), index(node, num(0)), node)
            if kind != NUM:
                asking = index(OF_KIND["row", 2] if kind != ("row", 2) else row(num(1)), node)
                self.no_fit(with_rows(do(asking)), asking, node)
        self.no_fit(with_rows(do(index(YES, NO))), index(YES, NO), YES)
        self.let_by(with_rows(back(index(row(num(1)), num(7)))))

    def test_two_records_with_like_fields(self):
        for asked, node in [("point", OF_KIND["named", "spot"]), ("spot", OF_KIND["named", "point"])]:
            kind = ("named", asked)
            self.no_fit(with_rows(back(node), gives=kind), back(node), node)
            program = with_rows(put("a", node), takes=[("a", kind)])
            self.no_fit(program, put("a", node), node)

    def test_a_name_has_its_own_place_in_an_expression(self):
        program = main(let("x", num(1)), back(index(name("x"), num(0))))
        self.refused(program, NoFit, 4, 5)

    def test_parts_go_ahead_of_the_whole_and_the_first_part_ahead(self):
        self.no_name(with_rows(do(call("other", name("x")))), "x", name("x"))
        self.no_name(with_rows(do(call("twice", name("x")))), "x", name("x"))
        self.no_name(with_rows(do(new("other", name("x"), name("y")))), "x", name("x"))
        self.no_name(with_rows(do(two("+", YES, name("x")))), "x", name("x"))
        self.no_name(with_rows(do(two("+", name("x"), name("y")))), "x", name("x"))
        self.no_name(with_rows(do(row(YES, name("x")))), "x", name("x"))
        self.no_name(with_rows(do(index(num(1), name("x")))), "x", name("x"))
        inner = two("+", num(1), YES)
        self.no_fit(with_rows(do(two("and", inner, num(2)))), inner, YES)
        left, right = one("-", YES), one("-", NO)
        self.no_fit(with_rows(do(two("+", left, right))), left, YES)
        self.no_fit(with_rows(do(call("twice", left, right, num(1)))), left, YES)


class Rows(Refused):
    def test_set(self):
        self.no_name(main(put("x", num(1))), "x", put("x", num(1)))
        self.no_name(main(put("x", name("y"))), "y", name("y"))
        for kind, node in OF_KIND.items():
            for other, value in OF_KIND.items():
                program = with_rows(let("x", node), put("x", value))
                taken = with_rows(put("x", value), takes=[("x", kind)])
                if kind == other:
                    self.let_by(program)
                    self.let_by(taken)
                else:
                    self.no_fit(program, put("x", value), value)
                    self.no_fit(taken, put("x", value), value)

    def test_set_in_one_that_is_not_there_any_more(self):
        self.no_name(main(choice(YES, [let("x", num(1))]), put("x", num(2))), "x", put("x", num(2)))

    def test_a_number_of_a_row_set(self):
        setting = setat("x", num(1), num(2))
        self.no_name(main(setting), "x", setting)
        self.let_by(with_rows(setting, takes=[("x", ("row", 1))]))
        for kind, node in OF_KIND.items():
            if kind[0] == "row":
                self.let_by(with_rows(let("x", node), setting))
            else:
                self.no_fit(with_rows(let("x", node), setting), setting, let("x", node))
                program = with_rows(setting, takes=[("x", kind)])
                self.no_fit(program, setting, program[1][-1])
            if kind != NUM:
                for wrong in [setat("x", node, num(1)), setat("x", num(1), node)]:
                    self.no_fit(with_rows(wrong, takes=[("x", ("row", 2))]), wrong, node)

    def test_a_number_of_a_row_set_in_order(self):
        self.no_name(main(setat("x", name("y"), name("z"))), "y", name("y"))
        self.no_name(main(setat("x", YES, name("z"))), "z", name("z"))
        self.no_name(main(setat("x", YES, NO)), "x", setat("x", YES, NO))
        self.no_fit(main(let("x", num(1)), setat("x", YES, NO)), setat("x", YES, NO), let("x", num(1)))
        self.no_fit(main(let("x", row(num(1))), setat("x", YES, NO)), setat("x", YES, NO), YES)
        self.no_fit(main(let("x", row(num(1))), setat("x", num(2), NO)), setat("x", num(2), NO), NO)

    def test_the_place_of_the_let_is_told_though_the_name_was_set_since(self):
        program = main(log(num(9)), let("x", num(1)), put("x", num(2)), choice(YES, [setat("x", num(3), num(4))]))
        self.refused(program, NoFit, 9, 3)

    def test_a_field_set(self):
        setting = setfield("x", "left", num(1))
        self.no_name(main(setting), "x", setting)
        self.let_by(with_rows(setting, takes=[("x", ("named", "spot"))]))
        for kind, node in OF_KIND.items():
            if kind in [("named", "point"), ("named", "spot")]:
                self.let_by(with_rows(let("x", node), setting))
            elif kind == ("named", "flag"):
                self.no_name(with_rows(let("x", node), setting), "left", setting)
            else:
                self.no_fit(with_rows(let("x", node), setting), setting, let("x", node))
                program = with_rows(setting, takes=[("x", kind)])
                self.no_fit(program, setting, program[1][-1])
            if kind != TRUTH:
                wrong = setfield("x", "up", node)
                self.no_fit(with_rows(wrong, takes=[("x", ("named", "flag"))]), wrong, node)

    def test_a_field_set_in_order(self):
        flag = [("x", ("named", "flag"))]
        self.no_name(with_rows(setfield("x", "nowhere", name("y"))), "y", name("y"))
        self.no_name(with_rows(setfield("x", "nowhere", YES)), "x", setfield("x", "nowhere", YES))
        wrong = setfield("x", "nowhere", YES)
        self.no_fit(with_rows(let("x", num(1)), wrong), wrong, let("x", num(1)))
        self.no_name(with_rows(wrong, takes=flag), "nowhere", wrong)
        self.no_name(with_rows(setfield("x", "left", OF_KIND["row", 2]), takes=flag), "left",
                     setfield("x", "left", OF_KIND["row", 2]))

    def test_tests_are_truths(self):
        for kind, node in OF_KIND.items():
            for asking in [
                choice(node, []), choice(node, [log(num(1))], [log(num(2))]), loop(node), loop(node, log(NO)),
            ]:
                if kind == TRUTH:
                    self.let_by(with_rows(asking))
                else:
                    self.no_fit(with_rows(asking), asking, node)

    def test_a_test_is_asked_behind_its_rows(self):
        bad = log(name("x"))
        for asking in [choice(num(1), [bad]), choice(num(1), [], [bad]), loop(num(1), bad)]:
            self.no_name(main(asking), "x", name("x"))
        self.no_name(main(choice(name("y"), [bad])), "y", name("y"))
        self.no_fit(main(choice(num(1), []), bad), choice(num(1), []), num(1))
        inner = loop(num(2))
        self.no_fit(main(choice(num(1), [], [inner])), inner, num(2))
        self.no_name(main(choice(YES, [log(name("y"))], [bad])), "y", name("y"))

    def test_logs(self):
        for kind, node in OF_KIND.items():
            if kind in (NUM, TRUTH):
                self.let_by(with_rows(log(node)))
            else:
                self.no_fit(with_rows(log(node)), log(node), node)

    def test_returns(self):
        for gives in OF_KIND:
            for kind, node in OF_KIND.items():
                if kind == gives:
                    self.let_by(with_rows(back(node), gives=gives))
                else:
                    self.no_fit(with_rows(loop(YES, back(node)), gives=gives), back(node), node)

    def test_a_return_is_asked_for_what_its_own_function_gives(self):
        program = ((), (fun("f", [], TRUTH, back(YES)), fun("main", [], NUM, back(num(1)))))
        self.let_by(program)
        self.refused(((), (fun("f", [], TRUTH, back(YES)), fun("main", [], NUM, back(NO)))), NoFit, 4, 5)

    def test_others_ask_nothing(self):
        for kind, node in OF_KIND.items():
            self.let_by(with_rows(do(node), let("x", node), trying([fails("oops")], ("other", [do(node)]))))

    def test_tries_in_order(self):
        bad, worse = log(name("x")), log(name("y"))
        self.no_name(main(trying([bad], ("a", [worse]))), "x", name("x"))
        self.no_name(main(trying([], ("a", [worse]), ("b", [bad]))), "y", name("y"))
        self.no_name(main(trying([], ("a", [worse])), bad), "y", name("y"))


class Places(Refused):
    def test_counted_by_hand(self):
        program = ((POINT, FLAG), (
            fun("f", [("a", NUM)], NUM,                                             # 2
                choice(two("<", name("a"), num(1)),                                 # 3, 4, 5, 6
                       [log(num(2))],                                               # 7, 8
                       [back(num(3))]),                                             # 9, 10
                trying([loop(YES, let("z", num(4)))],                               # 11, 12, 13, 14, 15
                       ("one", [log(NO)]),                                          # 16, 17
                       ("two", [fails("x"), setat("a", num(5), num(6))]))),         # 18, 19, 20, 21
            fun("main", [], NUM, back(call("f", field(new("point", num(1), num(2)), "left")))),
        ))
        self.assertEqual(refusal(typed, program), ("NoFit", 19, 2))
        rest = fun("f", [("a", NUM)], NUM, *program[1][0][4][:1])
        self.let_by((program[0], (rest, program[1][1])))
        lost = fun("main", [], NUM, back(call("f", field(new("point", num(1), num(2)), "up"))))
        self.refused((program[0], (rest, lost)), NoName, "up", 14)
        self.refused((program[0], (rest, fun("main", [], NUM, do(call("f", YES))))), NoFit, 13, 14)
        self.refused((program[0], (rest, fun("main", [], NUM, do(call("f"))))), NoFit, 2, 13)
        self.refused((program[0], (rest, fun("main", [], NUM, do(new("flag", YES))))), NoFit, 1, 13)

    def test_deep_and_wide_trees(self):
        for depth in [28, 60]:
            node, line = YES, log(num(1))
            for level in range(depth):
                node, line = one("not", node), choice(YES, [], [line]) if level % 2 else trying([], ("a", [line]))
            self.let_by(((), (fun("main", [], TRUTH, line, back(node)),)))
            program = main(line, back(node))
            self.refused(program, NoFit, place_of(program, back(node)), place_of(program, node))
        program = main(*[log(num(1))] * 1498, back(YES))
        self.refused(program, NoFit, 2997, 2998)

    def test_the_test_of_the_first_refusal(self):
        self.refused(main(choice(num(1), [log(num(2))], [log(num(3))]), back(YES)), NoFit, 1, 2)


class Told(unittest.TestCase):
    def body(self, program, function="main"):
        return typed(program).functions[function][2]

    def test_kinds_of_takes_and_of_what_is_given(self):
        program = (RECORDS, (
            fun("main", [("a", NUM), ("b", ("row", 6)), ("c", ("named", "flag"))], ("named", "point")),
            fun("f", [], TRUTH)))
        self.assertEqual(typed(program).functions, {
            "main": (
                (("a", NUM), ("b", ("row", 6)), ("c", ("record", (TRUTH, NUM)))), ("record", (NUM, NUM)), ()),
            "f": ((), TRUTH, ()),
        })

    def test_each_expression(self):
        number, yes = ("const", ("num", 7)), ("const", ("truth", True))
        flag = ("record", (TRUTH, NUM))
        made = ("op", "make", flag, (yes, number), flag)
        three = ("op", "make", ("row", 3), (number, number, number), ("row", 3))
        seven = num(7)
        for node, told in [
            (seven, number), (YES, yes), (NO, ("const", ("truth", False))),
            (name("a"), ("local", "a", flag)), (name("b"), ("local", "b", ("row", 3))),
            (name("c"), ("local", "c", NUM)),
            (call("main", name("a"), name("b"), seven),
             ("call", "main", (("local", "a", flag), ("local", "b", ("row", 3)), number), NUM)),
            (call("f"), ("call", "f", (), flag)),
            (new("flag", YES, seven), made), (row(seven, seven, seven), three),
            (field(name("a"), "up"), ("op", "get", 0, (("local", "a", flag),), TRUTH)),
            (field(new("flag", YES, seven), "size"), ("op", "get", 1, (made,), NUM)),
            (index(row(seven, seven, seven), name("c")), ("op", "pick", None, (three, ("local", "c", NUM)), NUM)),
            (one("-", seven), ("op", "neg", None, (number,), NUM)),
            (one("not", YES), ("op", "not", None, (yes,), TRUTH)),
        ]:
            takes = [("a", ("named", "flag")), ("b", ("row", 3)), ("c", NUM)]
            program = (RECORDS, (fun("main", takes, NUM, do(node)), fun("f", [], ("named", "flag"))))
            self.assertEqual(shown(self.body(program)), shown((("do", told),)))

    def test_each_operator(self):
        number, other = ("const", ("num", 1)), ("const", ("num", 2))
        for op, word, kind in [("+", "add", NUM), ("-", "sub", NUM), ("*", "mul", NUM), ("/", "div", NUM),
                               ("mod", "mod", NUM), ("<", "less", TRUTH), ("=", "same", TRUTH)]:
            told = ("op", word, None, (number, other), kind)
            self.assertEqual(shown(self.body(main(do(two(op, num(1), num(2)))))), shown((("do", told),)))
        for op in ["and", "or"]:
            told = ("op", op, None, (("const", ("truth", True)), ("const", ("truth", False))), TRUTH)
            self.assertEqual(shown(self.body(main(do(two(op, YES, NO))))), shown((("do", told),)))

    def test_each_row(self):
        number, yes = ("const", ("num", 1)), ("const", ("truth", True))
        inner, told_inner = log(num(1)), ("log", number)
        for rows, told in [
            ([let("x", num(1))], (("let", "x", number),)),
            ([let("x", num(1)), put("x", num(1))], (("let", "x", number), ("set", "x", number))),
            ([choice(YES, [inner, inner], [do(YES)])], (("if", yes, (told_inner, told_inner), (("do", yes),)),)),
            ([choice(YES, [])], (("if", yes, (), ()),)),
            ([loop(YES, inner)], (("while", yes, (told_inner,)),)),
            ([loop(YES)], (("while", yes, ()),)),
            ([log(YES)], (("log", yes),)),
            ([do(num(1))], (("do", number),)),
            ([back(num(1))], (("return", number),)),
            ([fails("oops")], (("raise", "oops"),)),
            ([trying([inner], ("a", [do(YES)]), ("b", []))], (
                ("try", (told_inner,), (("a", (("do", yes),)), ("b", ()))),)),
        ]:
            self.assertEqual(shown(self.body(main(*rows))), shown(told))

    def test_places_of_rows_and_fields_set(self):
        takes = [("r", ("row", 2)), ("p", ("named", "flag")), ("k", NUM)]
        flag = ("record", (TRUTH, NUM))
        wide, deep, number = ("local", "r", ("row", 2)), ("local", "p", flag), ("local", "k", NUM)
        program = (RECORDS, (fun("main", takes, NUM,
                                 setat("r", name("k"), index(name("r"), num(1))),
                                 setfield("p", "up", NO),
                                 setfield("p", "size", name("k"))),))
        self.assertEqual(shown(self.body(program)), shown((
            ("set", "r", ("op", "lay", None, (
                wide, number, ("op", "pick", None, (wide, ("const", ("num", 1))), NUM)), ("row", 2))),
            ("set", "p", ("op", "put", 0, (deep, ("const", ("truth", False))), flag)),
            ("set", "p", ("op", "put", 1, (deep, number), flag)),
        )))

    def test_fields_in_an_order_that_is_not_that_of_another_record(self):
        records = (("one", (("a", NUM), ("b", TRUTH), ("c", NUM))), ("other", (("c", TRUTH), ("a", NUM), ("b", NUM))))
        takes = [("x", ("named", "one")), ("y", ("named", "other"))]
        rows = [do(field(name(text), part)) for text in "xy" for part in "abc"]
        rows += [setfield("x", "c", field(name("y"), "b")), setfield("y", "c", field(name("x"), "b"))]
        told = self.body((records, (fun("main", takes, NUM, *rows),)))
        self.assertEqual([line[1][2] for line in told[:6]], [0, 1, 2, 1, 2, 0])
        self.assertEqual([line[1][4] for line in told[:6]], [NUM, TRUTH, NUM, NUM, NUM, TRUTH])
        self.assertEqual([(line[2][2], line[2][3][1][2]) for line in told[6:]], [(2, 2), (0, 1)])

    def test_a_name_is_of_the_kind_it_has_there(self):
        program = main(choice(YES, [let("x", num(1)), do(name("x"))], [let("x", YES), do(name("x"))]),
                       let("x", row(num(1))), do(name("x")))
        told = self.body(program)
        self.assertEqual(told[0][2][1], ("do", ("local", "x", NUM)))
        self.assertEqual(told[0][3][1], ("do", ("local", "x", TRUTH)))
        self.assertEqual(told[2], ("do", ("local", "x", ("row", 1))))

    def test_what_stands_behind_a_return_is_told(self):
        self.assertEqual(len(self.body(main(back(num(1)), back(num(2)), fails("a"), log(YES)))), 4)

    def test_a_copy(self):
        functions = {"main": ((), NUM, ())}
        made = Typed(functions)
        functions["other"] = ((), NUM, ())
        self.assertEqual(made.functions, {"main": ((), NUM, ())})
        made.functions["third"] = ((), NUM, ())
        self.assertEqual(sorted(functions), ["main", "other"])

    def test_the_same_again(self):
        program = with_rows(back(call("twice", num(1), YES)))
        first = typed(program)
        kept = shown(first.functions)
        first.functions.clear()
        self.assertEqual(shown(typed(program).functions), kept)


def checked(test, told, kinds):
    """Looks at what is told of an expression: each kind is that of its operation of its parts' kinds."""
    if told[0] == "const":
        test.assertTrue(is_constant(told[1]))
        return (told[1][0],)
    test.assertTrue(is_kind(told[-1]), told)
    if told[0] == "call":
        takes, gives, rows = kinds[told[1]]
        test.assertEqual([checked(test, part, kinds) for part in told[2]], [kind for text, kind in takes])
        test.assertEqual(told[3], gives)
    if told[0] == "op":
        given = [checked(test, part, kinds) for part in told[3]]
        test.assertEqual(result_kind(told[1], told[2], given), told[4])
    return told[-1]


def all_rows(rows):
    """Typed rows with all rows in them."""
    for line in rows:
        yield line
        inner = line[2:] if line[0] in ("if", "while") else ()
        if line[0] == "try":
            inner = [line[1]] + [catch[1] for catch in line[2]]
        for some in inner:
            yield from all_rows(some)


def parts_told(line):
    """The expressions right in a typed row."""
    return [] if line[0] in ("raise", "try") else [line[2] if line[0] in ("let", "set") else line[1]]


class Oracle:
    """Looks at a program by one list of all that is to be done, in its order, in the place of going down its tree."""

    def __init__(self, program):
        self.records = dict(program[0])
        self.functions = {function[1]: function for function in program[1]}
        self.program, self.kinds, self.scopes = program, {}, []
        # The very same node may stand at several places: so a node is named by its place.
        self.at = nodes(program)

    def first(self):
        place = len(self.program[0])
        for function in self.program[1]:
            self.scopes = [{text: (kind, place) for text, kind in function[2]}]
            todo = self.rows(function[4], place + 1)
            for act, where in todo:
                if act == "open":
                    self.scopes.append({})
                elif act == "close":
                    self.scopes.pop()
                else:
                    amiss = self.amiss(where, function)
                    if amiss:
                        return amiss
            place += len(nodes(((), (function,))))
        return None

    def size(self, node):
        return len(nodes(((), (node,))))

    def rows(self, rows, place):
        todo = [("open", None)]
        for node in rows:
            todo.extend(self.node(node, place))
            place += self.size(node)
        return todo + [("close", None)]

    def node(self, node, place):
        todo, groups = [], []
        if node[0] in ("if", "while"):
            groups = list(node[2:])
        if node[0] == "try":
            groups = [node[1]] + [catch[1] for catch in node[2]]
        beneath = place + 1
        plain = below(node)[:1] if node[0] in ("if", "while") else [] if node[0] == "try" else below(node)
        for part in plain:
            todo.extend(self.node(part, beneath))
            beneath += self.size(part)
        for rows in groups:
            todo.extend(self.rows(rows, beneath))
            beneath += sum(self.size(part) for part in rows)
        return todo + [("look", place)]

    def there(self, text):
        for scope in reversed(self.scopes):
            if text in scope:
                return scope[text]
        return None

    def parts(self, place):
        found, beneath = [], place + 1
        for part in below(self.at[place]):
            found.append(beneath)
            beneath += self.size(part)
        return found

    def amiss(self, place, function):
        node, parts = self.at[place], self.parts(place)
        word = node[0]
        wants = []
        if word in ("num", "truth"):
            self.kinds[place] = (word,)
        elif word == "name":
            if not self.there(node[1]):
                return ("NoName", node[1], place)
            self.kinds[place] = self.there(node[1])[0]
        elif word in ("call", "new"):
            table = self.functions if word == "call" else self.records
            if node[1] not in table:
                return ("NoName", node[1], place)
            pairs = table[node[1]][2] if word == "call" else table[node[1]]
            if len(pairs) != len(parts):
                owner = table[node[1]] if word == "call" else (node[1], pairs)
                return ("NoFit", [shown(one) for one in self.at].index(shown(owner)), place)
            wants = [kind for text, kind in pairs]
            self.kinds[place] = table[node[1]][3] if word == "call" else ("named", node[1])
        elif word == "row":
            wants, self.kinds[place] = [NUM] * len(parts), ("row", len(parts))
        elif word in ("two", "one"):
            wants = [TRUTH if node[1] in ("and", "or", "not") else NUM] * len(parts)
            self.kinds[place] = TRUTH if node[1] in ("<", "=", "and", "or", "not") else NUM
        elif word == "field":
            return self.part_of(place, parts[0], self.kinds[parts[0]], node[2])
        elif word == "index":
            if self.kinds[parts[0]][0] != "row":
                return ("NoFit", place, parts[0])
            wants, self.kinds[place] = [None, NUM], NUM
        elif word == "let":
            if self.there(node[1]):
                return ("Twice", node[1], place)
            self.scopes[-1][node[1]] = (self.kinds[parts[0]], place)
        elif word in ("set", "setat", "setfield"):
            if not self.there(node[1]):
                return ("NoName", node[1], place)
            kind, origin = self.there(node[1])
            wants = [kind]
            if word == "setat":
                if kind[0] != "row":
                    return ("NoFit", place, origin)
                wants = [NUM, NUM]
            if word == "setfield":
                amiss = self.part_of(place, origin, kind, node[2])
                if amiss:
                    return amiss
                wants = [self.kinds[place]]
        elif word in ("if", "while"):
            wants = [TRUTH]
        elif word == "log" and self.kinds[parts[0]] not in (NUM, TRUTH):
            return ("NoFit", place, parts[0])
        elif word == "return":
            wants = [function[3]]
        for part, kind in zip(parts, wants):
            if kind is not None and self.kinds[part] != kind:
                return ("NoFit", place, part)
        return None

    def part_of(self, place, origin, kind, text):
        if kind[0] != "named":
            return ("NoFit", place, origin)
        found = dict(self.records[kind[1]])
        if text not in found:
            return ("NoName", text, place)
        self.kinds[place] = found[text]
        return None


def replaced_at(node, place, other):
    """The node, or whatever holds nodes, with the place-th node beneath it, from 0, put otherwise; a tuple with how
    many nodes were passed."""
    if not isinstance(node, tuple):
        return node, 0
    is_node = bool(node) and isinstance(node[0], str) and node[0] in WORDS and not is_kind(node) and node[0] != "named"
    if is_node and place == 0:
        return other, 1
    passed, parts = int(is_node), []
    for number, part in enumerate(node):
        if is_node and number == 0 or place - passed < 0:
            parts.append(part)
            continue
        if is_node and node[0] == "fun" and number < 4:
            parts.append(part)
            continue
        changed, count = replaced_at(part, place - passed, other)
        parts.append(changed)
        passed += count
    return tuple(parts), passed


WORDS = """num truth name two one call new row field index let set setat setfield if while log do return raise try
fun""".split()
WRONG_ROWS = [log(row(num(1))), put("a", num(1)), let("a", YES), setat("b", num(0), num(1)), setfield("a", "p", num(1)),
              back(num(1)), back(YES), put("zz", num(1)), choice(num(1), [log(name("zz"))]), fails("oops")]
WRONG_PARTS = [num(1), YES, name("a"), name("zz"), row(num(1)), row(num(1), YES), call("main"), call("fa", num(1)),
               new("ra", num(1)), field(num(1), "p"), index(name("a"), num(0)), two("+", YES, NO), one("-", num(1))]


class ByChance(unittest.TestCase):
    def test_programs_that_are_let_by(self):
        for seed in range(400):
            program = Sower(seed).program()
            told = typed(program).functions
            self.assertEqual(list(told), [function[1] for function in program[1]])
            for takes, gives, rows in told.values():
                for line in all_rows(rows):
                    for part in parts_told(line):
                        checked(self, part, told)
                    if line[0] == "return":
                        self.assertEqual(checked(self, line[1], told), gives)

    def test_programs_with_one_or_two_things_amiss(self):
        came = {}
        for seed in range(3000):
            sower = Sower(seed, size=25)
            program = sower.program()
            self.assertIsNone(Oracle(program).first(), seed)
            for change in range(1 + seed % 2):
                at = nodes(program)
                places = [place for place, node in enumerate(at) if place >= len(program[0]) and node[0] != "fun"]
                place = sower.chance.choice(places)
                is_row = at[place][0] in WORDS[10:]
                other = sower.chance.choice(WRONG_ROWS if is_row else WRONG_PARTS)
                functions, passed = replaced_at(program[1], place - len(program[0]), other)
                program = (program[0], functions)
            wanted = Oracle(program).first()
            self.assertEqual(refusal(typed, program), wanted, (seed, program))
            came[wanted and wanted[0]] = came.get(wanted and wanted[0], 0) + 1
        self.assertGreater(min(came[word] for word in ["NoFit", "NoName", "Twice", None]), 20, came)


if __name__ == "__main__":
    unittest.main()
