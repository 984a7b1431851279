"""Points 4 and 55 to 58: what is well made, the first block that is amiss, rulers, and functions closed up."""

import unittest
from itertools import product
from random import Random

from eachstepsame.blocks import Back, Block, Branch, Code, Function, Jump, Raise, Risk, Row
from eachstepsame.errors import NoCode
from eachstepsame.fits import closed_up, followers, given_in, is_fit, need_fit, operand_kind, reached, rulers
from eachstepsame.ops import is_pure, is_risky, result_kind
from tests.helper import (
    FLAG, KINDS, NO, NUM, TICK, TRUTH, YES, changed, graph, n, num, refusal, sample_code, sample_main, shown, things,
)

WIDE = ("row", 2)


def log(operand):
    return Row(None, "log", None, [operand])


def sample(number=0, **parts):
    """The sample with main changed."""
    return sample_code().with_function("main", changed(sample_main(), number, **parts))


def single(kinds, rows, end, takes=(), gives=NUM, more=()):
    """A code whose main has one block, with params for what it takes, and perhaps more blocks."""
    params = range(len(takes))
    return Code({"main": Function(takes, gives, {**dict(enumerate(takes)), **kinds}, [
        Block(params, rows, end)] + list(more))})


class Fits(unittest.TestCase):
    def fit(self, code):
        kept = shown(code.told())
        self.assertIsNone(refusal(need_fit, code), code.told())
        self.assertIsNone(need_fit(code))
        self.assertIs(is_fit(code), True)
        self.assertEqual(shown(code.told()), kept)

    def amiss(self, code, block, function="main"):
        kept = shown(code.told())
        self.assertEqual(refusal(need_fit, code), ("NoCode", function, block), code.told())
        self.assertIs(is_fit(code), False)
        self.assertEqual(shown(code.told()), kept)


class WellMade(Fits):
    def test_samples(self):
        self.fit(sample_code())
        self.fit(single({}, [], Raise("oops")))
        self.fit(single({}, [], Back(num(1))))
        self.fit(single({1: NUM}, [Row(1, "neg", None, [n(0)])], Back(n(1)), takes=[NUM]))

    def test_no_main(self):
        self.amiss(Code({}), 0)
        self.amiss(Code({"f": sample_main()}), 0)
        bad = Function((), NUM, {}, [])
        self.amiss(Code({"a": bad, "mainly": bad}), 0)

    def test_no_blocks(self):
        bad = Function((), NUM, {}, [])
        self.amiss(Code({"main": bad}), 0)
        self.amiss(Code({"main": Function((), NUM, {1: NUM}, [])}), 0)
        good = sample_code()
        self.amiss(good.with_function("b", bad), 0, "b")
        self.amiss(good.with_function("z", bad).with_function("h", bad), 0, "h")

    def test_functions_in_rising_order(self):
        late = changed(sample_main(), 7, end=Back(YES))
        early = Function((), NUM, {}, [Block((), (), Jump((9, ())))])
        self.amiss(Code({"main": late, "f": early, "g": early}), 0, "f")
        self.amiss(sample_code().with_function("main", late).with_function("z", early), 7)
        self.amiss(sample_code().with_function("main", late).with_function("a", early), 0, "a")
        self.amiss(sample_code().with_function("z", early).with_function("main", late), 7)

    def test_fields_that_are_emptied(self):
        code = sample_code()
        function = code.functions["main"]
        function.kinds.clear()
        code.functions.clear()
        self.fit(code)
        self.assertEqual(operand_kind(function, n(1)), TRUTH)


class Edges(Fits):
    def test_to_block_0_and_to_no_block(self):
        for to in [0, 8, 9, -1, 10 ** 6]:
            edge = (to, ())
            self.amiss(sample(7, end=Jump(edge)), 7)
            self.amiss(sample(3, end=Branch(YES, (4, (n(6),)), edge)), 3)
            self.amiss(sample(3, end=Branch(YES, edge, (4, (n(6),)))), 3)
            self.amiss(sample(2, end=Risk("div", None, [n(5), n(2)], edge, [])), 2)
            self.amiss(sample(5, end=Risk("call", "f", [n(2)], (6, ()), [("oops", (7, ())), ("end", edge)])), 5)

    def test_what_is_no_number_is_no_block(self):
        for to in [True, None]:
            self.amiss(sample(7, end=Jump((to, ()))), 7)

    def test_a_block_that_leads_to_itself(self):
        self.amiss(single({}, [TICK], Jump((0, ()))), 0)
        self.amiss(single({}, [], Jump((1, ())), more=[Block((), [], Jump((1, ())))]), 1)
        self.fit(single({}, [], Jump((1, ())), more=[Block((), [TICK], Jump((1, ())))]))

    def test_ahead_of_all_else(self):
        # Block 1 gives 3 once more, block 0 has a wrong end, and block 6 leads to block 0.
        function = changed(sample_main(), 6, end=Jump((0, ())))
        function = changed(function, 2, params=(3,))
        self.amiss(sample_code().with_function("main", changed(function, 0, end=Raise("x"))), 6)

    def test_the_first_one(self):
        function = changed(changed(sample_main(), 6, end=Jump((0, ()))), 3, end=Jump((8, ())))
        self.amiss(sample_code().with_function("main", function), 3)


class GivenOnce(Fits):
    def test_twice_in_one_block(self):
        self.amiss(sample(0, params=(0, 0)), 0)
        self.amiss(sample(6, rows=[Row(11, "get", 1, [n(10)]), Row(11, "get", 1, [n(10)])]), 6)
        self.amiss(sample(3, rows=[Row(6, "neg", None, [n(7)]), Row(8, "add", None, [n(6), n(7)])]), 3)

    def test_in_two_blocks(self):
        self.amiss(sample(4, params=(3,), end=Back(n(3)), without=[9]), 4)
        self.amiss(sample(2, rows=[log(n(3)), Row(2, "neg", None, [n(3)]), Row(5, "sub", None, [n(3), n(0)])]), 2)
        self.amiss(sample(7, rows=[Row(0, "neg", None, [num(3)])]), 7)

    def test_in_a_block_to_which_nobody_comes(self):
        more = [Block((9,), (), Raise("oops"))]
        self.amiss(sample(more=more), 8)
        self.amiss(sample(more=[Block((12,), (), Raise("oops"))], kinds={12: NUM}), 8)
        self.amiss(sample(more=[Block((12,), (), Raise("oops"))]), 0)

    def test_kinds_of_more_and_of_fewer_names(self):
        self.amiss(sample(kinds={12: NUM}), 0)
        for name in range(12):
            self.amiss(sample(without=[name]), 0)
        self.amiss(sample(without=[3], kinds={12: NUM}), 0)

    def test_kinds_go_by_the_number_of_their_block(self):
        self.amiss(sample(7, rows=[Row(0, "neg", None, [num(3)])], kinds={12: NUM}), 0)

    def test_ahead_of_what_does_not_fit(self):
        function = changed(sample_main(), 7, rows=[Row(0, "neg", None, [num(3)])])
        self.amiss(sample_code().with_function("main", changed(function, 1, end=Back(YES))), 7)
        self.amiss(sample(5, end=Raise("oops"), kinds={12: NUM}), 0)

    def test_a_log_or_a_tick_that_has_a_name_gives_it(self):
        for op, operands in [("log", [n(3)]), ("tick", [])]:
            rows = [Row(12, op, None, operands)] + list(sample_main().blocks[2].rows)
            self.amiss(sample(2, rows=rows), 0)
            self.amiss(sample(2, rows=rows, kinds={12: NUM}), 2)
            self.amiss(sample(2, rows=[Row(3, op, None, operands)] + rows[1:]), 2)


class ComeTo(Fits):
    def test_nobody_comes(self):
        self.amiss(sample(more=[Block((), (), Raise("oops"))]), 8)
        self.amiss(sample(0, end=Jump((5, ()))), 1)
        self.amiss(sample(more=[Block((), [TICK], Jump((9, ()))), Block((), [TICK], Jump((8, ())))]), 8)

    def test_params_of_block_0(self):
        for takes in [(NUM,), (NUM, NUM), (TRUTH, NUM), (), (NUM, TRUTH, NUM), (NUM, FLAG)]:
            self.amiss(sample(takes=takes), 0)
        self.amiss(sample(0, params=(1, 0)), 0)
        self.amiss(single({}, [], Raise("oops"), takes=[NUM]).with_function(
            "main", Function((NUM,), NUM, {}, [Block((), (), Raise("oops"))])), 0)

    def test_the_first_one_of_several(self):
        function = changed(sample_main(), 6, end=Back(n(10)))
        self.amiss(sample_code().with_function("main", changed(function, 3, end=Jump((1, (YES,))))), 3)
        more = [Block((), (), Raise("oops"))]
        self.amiss(sample(6, end=Back(n(10)), more=more), 6)
        self.amiss(sample_code().with_function("main", changed(function, takes=(NUM, NUM))), 0)


class Kinds(Fits):
    def in_block_6(self, *rows, **kinds):
        """Is it so that block 6 of the sample may have these rows; names from 12 on have the kinds told."""
        given = {int(word[1:]): kind for word, kind in kinds.items()}
        code = sample(6, rows=tuple(rows) + sample_main().blocks[6].rows, kinds=given)
        told = refusal(need_fit, code)
        self.assertIn(told, [None, ("NoCode", "main", 6)])
        return told is None

    def test_pure_rows(self):
        for row, kind in [
            (Row(12, "copy", None, [n(10)]), FLAG), (Row(12, "neg", None, [n(0)]), NUM),
            (Row(12, "add", None, [n(0), num(1)]), NUM), (Row(12, "sub", None, [num(1), num(2)]), NUM),
            (Row(12, "less", None, [n(0), n(2)]), TRUTH), (Row(12, "same", None, [n(0), n(2)]), TRUTH),
            (Row(12, "and", None, [n(1), YES]), TRUTH), (Row(12, "or", None, [NO, n(1)]), TRUTH),
            (Row(12, "not", None, [n(1)]), TRUTH), (Row(12, "make", WIDE, [n(0), n(2)]), WIDE),
            (Row(12, "make", FLAG, [n(1), n(2)]), FLAG), (Row(12, "get", 0, [n(10)]), TRUTH),
            (Row(12, "put", 0, [n(10), NO]), FLAG),
        ]:
            for other in KINDS:
                self.assertIs(self.in_block_6(row, n12=other), other == kind, (row.told(), other))
            for operands in product([num(1), YES, n(10), n(0), n(1)], repeat=len(row.operands)):
                kinds = [operand_kind(sample_main(), operand) for operand in operands]
                fits = result_kind(row.op, row.extra, kinds) == kind
                self.assertIs(self.in_block_6(Row(12, row.op, row.extra, operands), n12=kind), fits)
            for operands in [[], row.operands + (num(1),)]:
                self.assertIs(self.in_block_6(Row(12, row.op, row.extra, operands), n12=kind), False)

    def test_extras(self):
        for op, operands, kind, right in [
            ("neg", [n(0)], NUM, None), ("get", [n(10)], TRUTH, 0), ("put", [n(10), num(1)], FLAG, 1),
            ("make", [n(0), n(2)], WIDE, WIDE), ("copy", [n(0)], NUM, None),
        ]:
            for extra in [None, 0, 1, 2, -1, WIDE, FLAG, NUM, "a", True, False]:
                fits = shown(extra) == shown(right)
                self.assertIs(self.in_block_6(Row(12, op, extra, operands), n12=kind), fits, (op, extra))

    def test_rows_of_another_form(self):
        for op, operands, kind in [
            ("mul", [n(0), n(0)], NUM), ("div", [n(0), n(0)], NUM), ("mod", [n(0), n(0)], NUM), ("call", [], NUM),
            ("other", [n(0)], NUM), ("", [], NUM), (None, [], NUM), (7, [n(0)], NUM), ("param", [n(0)], NUM),
        ]:
            self.assertIs(self.in_block_6(Row(12, op, None, operands), n12=kind), False)
            self.assertIs(self.in_block_6(Row(None, op, None, operands)), False)
        self.assertIs(self.in_block_6(Row(None, "neg", None, [n(0)])), False)
        self.assertIs(self.in_block_6(Row(None, "add", None, [n(0), n(0)])), False)
        rows = [Row(12, "make", WIDE, [n(0), n(0)]), Row(13, "pick", None, [n(12), num(0)])]
        self.assertIs(self.in_block_6(*rows, n12=WIDE, n13=NUM), False)

    def test_any_thing_as_the_operation_or_the_extra(self):
        for thing in things():
            self.assertIs(self.in_block_6(Row(12, thing, None, [n(0)]), n12=NUM), shown(thing) == "'copy'")
            self.assertIs(self.in_block_6(Row(12, "get", thing, [n(10)]), n12=NUM), shown(thing) == "1")
            end = Risk(thing, None, [n(2), n(2)], (3, (num(7),)), [])
            self.assertIs(is_fit(sample(2, end=end)), shown(thing) == "'mul'")
            end = Risk("div", thing, [n(2), n(2)], (3, (num(7),)), [])
            self.assertIs(is_fit(sample(2, end=end)), thing is None)
            self.assertIs(is_fit(sample(5, end=Risk("call", thing, [n(2)], (6, ()), [("a", (7, ()))]))), False)

    def test_logs(self):
        self.assertIs(self.in_block_6(log(n(0)), log(n(1)), log(num(1)), log(YES)), True)
        self.assertIs(self.in_block_6(log(n(10))), False)
        self.assertIs(self.in_block_6(Row(12, "make", WIDE, [n(0), n(0)]), log(n(12)), n12=WIDE), False)
        for operands in [[], [n(0), n(0)], [num(1), YES]]:
            self.assertIs(self.in_block_6(Row(None, "log", None, operands)), False)
        for extra in [0, "a", NUM, False]:
            self.assertIs(self.in_block_6(Row(None, "log", extra, [n(0)])), False)

    def test_ticks(self):
        self.assertIs(self.in_block_6(TICK, TICK), True)
        for operands, extra in [([n(0)], None), ([], 0), ([], NUM), ([YES], None), ([], False), ([n(99)], None)]:
            self.assertIs(self.in_block_6(Row(None, "tick", extra, operands)), False)
        self.assertIs(self.in_block_6(Row(12, "tick", None, []), n12=NUM), False)

    def test_constants_of_wrong_values(self):
        for wrong in [("num", True), ("num", False), ("truth", 0), ("truth", 1), ("num", None), ("truth", None),
                      ("num", "1"), ("row", 1), ("record", True)]:
            for row in [Row(12, "copy", None, [wrong]), Row(12, "add", None, [wrong, num(1)]),
                        Row(12, "and", None, [wrong, YES])]:
                for kind in [NUM, TRUTH]:
                    self.assertIs(self.in_block_6(row, n12=kind), False)
            self.assertIs(self.in_block_6(log(wrong)), False)
            self.amiss(sample(4, end=Back(wrong)), 4)
            self.amiss(sample(3, end=Jump((1, (wrong,)))), 3)
            self.amiss(sample(2, end=Risk("div", None, [wrong, n(2)], (3, (num(7),)), [])), 2)
            self.amiss(sample(0, end=Branch(wrong, (1, (n(2),)), (5, ()))), 0)

    def test_tests(self):
        for test in [n(0), num(1), n(2)]:
            self.amiss(sample(0, end=Branch(test, (1, (n(2),)), (5, ()))), 0)
        self.amiss(sample(6, end=Branch(n(10), (4, (n(11),)), (7, ()))), 6)
        self.fit(sample(6, end=Branch(NO, (4, (n(11),)), (7, ()))))

    def test_backs(self):
        self.amiss(sample(4, end=Back(YES)), 4)
        self.amiss(sample(6, end=Back(n(10))), 6)
        self.fit(sample(6, end=Back(num(4))))
        self.amiss(sample(gives=TRUTH), 4)
        code = sample_code()
        self.amiss(code.with_function("f", changed(code.functions["f"], 3, end=Back(num(1)))), 3, "f")

    def test_risks(self):
        edge, catches = (3, (num(7),)), [("zero", (4, (num(0),)))]
        for op in ["mul", "div", "mod"]:
            self.fit(sample(2, end=Risk(op, None, [n(5), n(2)], edge, catches)))
        for op, extra, asked in [
            ("add", None, [n(5), n(2)]), ("copy", None, [n(5)]), ("log", None, [n(5)]), ("tick", None, []),
            ("other", None, [n(5)]), ("div", None, [n(5)]), ("div", None, [n(5), n(2), n(2)]),
            ("div", None, [n(5), n(1)]),
            ("div", None, [n(1), n(5)]), ("div", 0, [n(5), n(2)]), ("pick", None, [n(5), n(2)]), ("div", None, []),
        ]:
            self.amiss(sample(2, end=Risk(op, extra, asked, edge, catches)), 2)

    def test_picks_and_lays(self):
        code = sample_code()
        for op, asked, kind in [("lay", [n(3), num(0), n(0)], WIDE), ("pick", [n(3), n(0)], NUM)]:
            f = changed(code.functions["f"], 1, end=Risk(op, None, asked, (2, ()), [("range", (3, ()))]))
            for given in [WIDE, NUM, TRUTH, ("row", 3)]:
                asked_code = code.with_function("f", changed(f, kinds={4: given}))
                if given == kind:
                    self.fit(asked_code)
                else:
                    self.amiss(asked_code, 1, "f")

    def test_catches(self):
        self.amiss(sample(5, end=Risk("call", "f", [n(2)], (6, ()), [("oops", (7, ())), ("oops", (7, ()))])), 5)
        self.amiss(sample(5, end=Risk("call", "f", [n(2)], (6, ()), [
            ("a", (7, ())), ("b", (7, ())), ("a", (4, (num(1),)))])), 5)
        self.fit(sample(2, end=Risk("div", None, [n(5), n(2)], (3, (num(7),)), [
            ("zero", (4, (num(0),))), ("range", (4, (num(1),))), ("oops", (4, (n(2),)))])))
        self.amiss(sample(5, end=Risk("call", "f", [n(2)], (6, ()), [("oops", (4, ())), ("end", (7, ()))])), 5)

    def test_calls(self):
        catches = [("oops", (7, ()))]
        for extra, asked in [("h", [n(2)]), (None, [n(2)]), ("", [n(2)]), ("f", []), ("f", [n(2), n(2)]), ("f", [n(1)]),
                             ("f", [YES]), ("g", [n(2)]), ("main", [n(2), n(1)])]:
            self.amiss(sample(5, end=Risk("call", extra, asked, (6, ()), catches)), 5)
        self.fit(sample(5, end=Risk("call", "f", [num(3)], (6, ()), catches)))
        itself = changed(sample_main(), 5, end=Risk("call", "main", [n(2), n(1)], (6, ()), catches))
        itself = changed(itself, 6, rows=[Row(11, "neg", None, [n(10)])], kinds={10: NUM})
        self.fit(sample_code().with_function("main", itself))
        self.amiss(Code({"main": sample_main()}), 5)

    def test_what_a_call_gives(self):
        code = sample_code()
        self.amiss(code.with_function("f", changed(code.functions["f"], gives=WIDE)), 2, "f")
        flat = Function((NUM,), NUM, {0: NUM}, [Block((0,), (), Back(n(0)))])
        self.amiss(code.with_function("f", flat), 5)

    def test_edges_have_as_many_args_of_the_right_kinds(self):
        for number, end in [
            (0, Branch(n(1), (1, ()), (5, ()))), (0, Branch(n(1), (1, (n(2), n(2))), (5, ()))),
            (0, Branch(n(1), (1, (n(1),)), (5, ()))), (0, Branch(n(1), (1, (n(2),)), (5, (n(2),)))),
            (3, Jump((1, ()))), (3, Jump((1, (YES,)))), (3, Jump((1, (n(8), n(8))))),
            (2, Risk("div", None, [n(5), n(2)], (3, ()), [])),
            (2, Risk("div", None, [n(5), n(2)], (3, (YES,)), [])),
            (2, Risk("div", None, [n(5), n(2)], (3, (num(7), num(8))), [])),
            (2, Risk("div", None, [n(5), n(2)], (7, ()), [])),
            (2, Risk("div", None, [n(5), n(2)], (3, (num(7),)), [("zero", (4, ()))])),
            (2, Risk("div", None, [n(5), n(2)], (3, (num(7),)), [("zero", (3, (num(7),)))])),
            (2, Risk("div", None, [n(5), n(2)], (3, (num(7),)), [("zero", (4, (NO,)))])),
            (5, Risk("call", "f", [n(2)], (4, ()), [])), (5, Risk("call", "f", [n(2)], (6, (n(2),)), [])),
        ]:
            self.amiss(sample(number, end=end), number)

    def test_the_result_is_ahead_of_the_args(self):
        kinds = {1: NUM, 2: TRUTH, 3: TRUTH, 4: NUM}
        for params, number in [((1, 2), None), ((3, 4), 0)]:
            block = Block(params, (), Raise("oops"))
            given = {name: kinds[name] for name in params}
            code = Code({"main": Function((), NUM, given, [
                Block((), (), Risk("mul", None, [num(2), num(3)], (1, (YES,)), [])), block])})
            if number is None:
                self.fit(code)
            else:
                self.amiss(code, number)


class GivenWhereUsed(Fits):
    def test_ahead_of_its_row(self):
        rows = [Row(12, "neg", None, [n(13)]), Row(13, "neg", None, [n(0)])]
        self.amiss(sample(6, rows=tuple(rows) + sample_main().blocks[6].rows, kinds={12: NUM, 13: NUM}), 6)
        self.fit(sample(6, rows=tuple(rows[::-1]) + sample_main().blocks[6].rows, kinds={12: NUM, 13: NUM}))

    def test_of_its_own_row(self):
        rows = (Row(12, "neg", None, [n(12)]),) + sample_main().blocks[6].rows
        self.amiss(sample(6, rows=rows, kinds={12: NUM}), 6)
        # In a round the row was gone through earlier, but it is not given where it is used.
        self.amiss(sample(3, rows=(Row(12, "neg", None, [n(12)]),) + sample_main().blocks[3].rows, kinds={12: NUM}), 3)

    def test_of_a_block_that_does_not_rule(self):
        self.amiss(sample(4, end=Back(n(3))), 4)
        self.amiss(sample(4, end=Back(n(11))), 4)
        self.amiss(sample(7, rows=[log(n(5))]), 7)
        self.amiss(sample(1, rows=[TICK, log(n(8)), Row(4, "less", None, [n(3), num(10)])]), 1)
        self.amiss(sample(5, rows=[log(n(11))]), 5)

    def test_of_a_block_that_rules(self):
        self.fit(sample(4, end=Back(n(2))))
        self.fit(sample(3, rows=[Row(8, "add", None, [n(5), n(3)])]))
        self.fit(sample(2, end=Risk("div", None, [n(3), n(0)], (3, (n(2),)), [("zero", (4, (n(5),)))])))

    def test_in_ends_and_edges(self):
        for number, end in [
            (3, Jump((1, (n(9),)))), (0, Branch(n(4), (1, (n(2),)), (5, ()))), (0, Branch(n(1), (1, (n(3),)), (5, ()))),
            (2, Risk("div", None, [n(6), n(2)], (3, (num(7),)), [])),
            (2, Risk("div", None, [n(5), n(2)], (3, (n(6),)), [])),
            (2, Risk("div", None, [n(5), n(2)], (3, (num(7),)), [("zero", (4, (n(7),)))])), (6, Back(n(3))),
        ]:
            self.amiss(sample(number, end=end), number)

    def test_a_name_that_nobody_gives(self):
        self.amiss(sample(4, end=Back(n(77))), 4)
        self.amiss(sample(4, rows=[log(n(77))]), 4)

    def test_params_of_a_block_are_given_in_it_alone_and_where_it_rules(self):
        self.fit(sample(4, rows=[log(n(9))]))
        self.amiss(sample(7, rows=[log(n(10))]), 7)

    def test_a_rings_own_names(self):
        # Block 2 is ruled by block 1, and hands its own names on to block 1.
        blocks = [Block((), (), Jump((1, (num(0),)))),
                  Block((1,), [TICK, Row(2, "neg", None, [n(1)])], Branch(YES, (2, ()), (3, ()))),
                  Block((), [Row(3, "neg", None, [n(2)])], Jump((1, (n(3),)))),
                  Block((), (), Back(n(2)))]
        kinds = {1: NUM, 2: NUM, 3: NUM}
        self.fit(Code({"main": Function((), NUM, kinds, blocks)}))
        blocks[3] = Block((), (), Back(n(3)))
        self.amiss(Code({"main": Function((), NUM, kinds, blocks)}), 3)


class Rounds(Fits):
    def without_tick(self, *ticking, ways):
        blocks = []
        for number, block in enumerate(graph(*ways).blocks):
            blocks.append(Block((), [TICK] if number in ticking else [], block.end))
        return Code({"main": Function((), NUM, {}, blocks)})

    def test_one_block(self):
        self.amiss(self.without_tick(ways=[[1], [1]]), 1)
        self.fit(self.without_tick(1, ways=[[1], [1]]))
        self.amiss(self.without_tick(0, ways=[[1], [1]]), 1)

    def test_several_blocks(self):
        ways = [[1], [2, 4], [3], [1], []]
        self.amiss(self.without_tick(ways=ways), 1)
        for ticking in [1, 2, 3]:
            self.fit(self.without_tick(ticking, ways=ways))
        self.amiss(self.without_tick(0, 4, ways=ways), 1)

    def test_the_first_on_the_round(self):
        # Blocks 1 and 2 lead to the round of 3 and 4, and 5 stands behind it: they lie on none.
        self.amiss(self.without_tick(ways=[[1], [2], [4], [4, 5], [3], []]), 3)

    def test_between_two_rounds(self):
        ways = [[1], [1, 2], [3], [3, 4], []]
        self.amiss(self.without_tick(ways=ways), 1)
        self.amiss(self.without_tick(1, ways=ways), 3)
        self.fit(self.without_tick(1, 3, ways=ways))

    def test_rounds_within_rounds(self):
        ways = [[1], [2, 5], [3], [2, 4], [1], []]
        self.amiss(self.without_tick(1, ways=ways), 2)
        self.amiss(self.without_tick(3, ways=[[1], [2, 5], [3, 4], [2], [1], []]), 1)
        self.fit(self.without_tick(2, ways=ways))

    def test_one_of_two_ways_round_has_no_tick(self):
        ways = [[1], [2, 3], [1], [1, 4], []]
        self.amiss(self.without_tick(2, ways=ways), 1)
        self.amiss(self.without_tick(3, ways=ways), 1)
        self.fit(self.without_tick(2, 3, ways=ways))

    def test_a_call_in_a_round_is_no_tick(self):
        call = Risk("call", "main", [], (2, ()), [])
        for rows, amiss in [([], 1), ([TICK], None)]:
            code = Code({"main": Function((), NUM, {0: NUM}, [
                Block((), (), Jump((1, ()))), Block((), rows, call), Block((0,), (), Jump((1, ())))])})
            self.assertEqual(refusal(need_fit, code), amiss and ("NoCode", "main", amiss))

    def test_a_tick_row_with_other_things_is_one(self):
        # It does not fit itself, but the blocks of its round lie on none.
        for row, kinds in [(Row(None, "tick", None, [num(1)]), {}), (Row(None, "tick", 5, []), {}),
                           (Row(7, "tick", None, []), {7: NUM})]:
            code = Code({"main": Function((), NUM, kinds, [
                Block((), (), Jump((1, ()))), Block((), (), Jump((2, ()))), Block((), [row], Jump((1, ())))])})
            self.amiss(code, 2)


class Graphs(unittest.TestCase):
    def test_rulers_by_hand(self):
        self.assertEqual(rulers(graph([])), [[0]])
        self.assertEqual(rulers(graph([1], [2], [])), [[0], [0, 1], [0, 1, 2]])
        self.assertEqual(rulers(graph([1, 2], [3], [3], [])), [[0], [0, 1], [0, 2], [0, 3]])
        self.assertEqual(rulers(graph([3], [], [1], [2])), [[0], [0, 1, 2, 3], [0, 2, 3], [0, 3]])

    def test_rulers_with_rounds(self):
        self.assertEqual(rulers(graph([1], [2, 4], [3], [1], [])), [[0], [0, 1], [0, 1, 2], [0, 1, 2, 3], [0, 1, 4]])
        # Two ways into one round: neither block of it rules the other.
        self.assertEqual(rulers(graph([1, 2], [2], [1, 3], [])), [[0], [0, 1], [0, 2], [0, 2, 3]])

    def test_blocks_to_which_nobody_comes(self):
        function = graph([2], [2, 3], [], [1])
        self.assertEqual(rulers(function), [[0], [], [0, 2], []])
        self.assertEqual(reached(function), [0, 2])
        self.assertEqual(reached(graph([1], [3], [1], [1])), [0, 1, 3])

    def test_a_function_without_blocks(self):
        function = Function((), NUM, {3: NUM}, [])
        self.assertEqual((rulers(function), reached(function), given_in(function)), ([], [], {}))
        closed, numbers = closed_up(function)
        self.assertEqual((closed.told(), numbers), (((), NUM, (), ()), {}))

    def test_followers(self):
        function = graph([3, 1], [1], [3, 3], [2, 1, 3, 2], [])
        self.assertEqual([followers(function, number) for number in range(5)], [[1, 3], [1], [3], [1, 2, 3], []])

    def test_given_in(self):
        self.assertEqual(given_in(sample_main()), {
            0: 0, 1: 0, 2: 0, 3: 1, 4: 1, 5: 2, 6: 3, 7: 3, 8: 3, 9: 4, 10: 6, 11: 6})
        self.assertEqual(given_in(graph([1], [])), {})

    def test_given_in_blocks_to_which_nobody_comes(self):
        function = changed(sample_main(), more=[Block((20,), [Row(21, "neg", None, [n(20)])], Raise("oops"))])
        self.assertEqual(given_in(function)[20], 8)
        self.assertEqual(given_in(function)[21], 8)

    def test_lists_and_dicts_are_the_askers_own(self):
        function = sample_main()
        for asked in [rulers, reached, given_in, lambda one: followers(one, 0), lambda one: closed_up(one)[1]]:
            first = asked(function)
            kept = shown(first)
            first.clear()
            self.assertEqual(shown(asked(function)), kept)
        inner = rulers(function)
        kept = shown(inner)
        inner[0].append(9)
        self.assertNotEqual(shown(inner), kept)
        self.assertEqual(inner[1], [0, 1])
        self.assertEqual(shown(rulers(function)), kept)

    def test_operand_kinds(self):
        function = sample_main()
        for operand, kind in [(n(0), NUM), (n(1), TRUTH), (n(10), FLAG), (n(99), None), (num(0), NUM), (YES, TRUTH),
                              (NO, TRUTH), (("num", True), None), (("truth", 1), None), (num(-5), NUM)]:
            self.assertEqual(operand_kind(function, operand), kind, operand)

    def test_by_chance(self):
        for seed in range(600):
            chance = Random(seed)
            count = chance.randrange(1, 9)
            ways = []
            for number in range(count):
                wanted = chance.choice([0, 1, 1, 2, 2, 3])
                ways.append([chance.randrange(1, count) for way in range(wanted)] if count > 1 else [])
            function = graph(*ways)
            self.assertEqual(reached(function), sorted(come_to(ways, None)), ways)
            self.assertEqual(rulers(function), ruling(ways), ways)
            for ticking in range(3):
                ticks = [number for number in range(count) if chance.random() < 0.3]
                code = self.with_calls_away(function, ticks)
                self.assertEqual(refusal(need_fit, code), Oracle(code).refusal(), (ways, ticks))

    def with_calls_away(self, function, ticks):
        """Like graphs, with tick rows in these blocks alone, well made but for rounds and for who comes."""
        blocks = []
        for number, block in enumerate(function.blocks):
            end = block.end
            if isinstance(end, Risk):
                end = Branch(YES, end.edge, end.catches[0][1])
            blocks.append(Block((), [TICK] if number in ticks else [], end))
        return Code({"main": Function((), NUM, {}, blocks)})

    def test_many_blocks(self):
        chain = graph(*([[number + 1] for number in range(4999)] + [[]]))
        self.assertIs(is_fit(Code({"main": chain})), True)
        self.assertEqual(reached(chain), list(range(5000)))
        self.assertEqual(rulers(chain)[4999], list(range(5000)))
        for number in [7, 2500]:
            back = Block((), (), Branch(YES, (number + 1, ()), (number, ())))
            self.assertEqual(refusal(need_fit, Code({"main": Function((), NUM, {}, (
                chain.blocks[:number] + (back,) + chain.blocks[number + 1:]))})), ("NoCode", "main", number))
        wide = graph(*([[number + 1, 4999] for number in range(4998)] + [[4999], []]))
        self.assertEqual(rulers(wide)[4999], [0, 4999])


class ClosedUp(unittest.TestCase):
    def test_all_blocks_are_come_to(self):
        closed, numbers = closed_up(sample_main())
        self.assertIsInstance(closed, Function)
        self.assertEqual(shown(closed.told()), shown(sample_main().told()))
        self.assertEqual(numbers, {number: number for number in range(8)})

    def test_blocks_are_left_out(self):
        function = changed(sample_main(), 0, end=Jump((5, ())))
        kept = shown(function.told())
        closed, numbers = closed_up(function)
        self.assertEqual(numbers, {0: 0, 4: 1, 5: 2, 6: 3, 7: 4})
        self.assertEqual(shown(closed.told()), shown((
            (NUM, TRUTH), NUM, ((0, NUM), (1, TRUTH), (2, NUM), (9, NUM), (10, FLAG), (11, NUM)), (
                ((0, 1), ((2, "add", None, (n(0), num(1))),), ("jump", (2, ()))),
                ((9,), (), ("back", n(9))),
                ((), (), ("risk", "call", "f", (n(2),), (3, ()), (("oops", (4, ())), ("end", (4, ()))))),
                ((10,), ((11, "get", 1, (n(10),)),), ("jump", (1, (n(11),)))),
                ((), (), ("raise", "oops")),
            ))))
        self.assertEqual(shown(function.told()), kept)
        self.assertIs(is_fit(sample_code().with_function("main", closed)), True)

    def test_kinds_of_names_that_nobody_gives_are_left_out(self):
        closed, numbers = closed_up(changed(sample_main(), kinds={50: NUM}))
        self.assertEqual(closed.told(), sample_main().told())
        closed, numbers = closed_up(changed(sample_main(), without=[3]))
        self.assertEqual(sorted(closed.kinds), [0, 1, 2] + list(range(4, 12)))

    def test_names_stay(self):
        function = changed(sample_main(), 1, end=Jump((4, (n(3),))))
        closed, numbers = closed_up(function)
        self.assertEqual(numbers, {0: 0, 1: 1, 4: 2, 5: 3, 6: 4, 7: 5})
        self.assertEqual(sorted(closed.kinds), [0, 1, 2, 3, 4, 9, 10, 11])

    def test_closed_up_twice(self):
        function = changed(sample_main(), 0, end=Jump((5, ())))
        once = closed_up(function)[0]
        again, numbers = closed_up(once)
        self.assertEqual(again.told(), once.told())
        self.assertEqual(numbers, {number: number for number in range(5)})

    def test_by_chance(self):
        for seed in range(300):
            chance = Random(seed)
            count = chance.randrange(2, 9)
            ways = [[chance.randrange(1, count) for way in range(chance.choice([0, 1, 2, 3]))]
                    for number in range(count)]
            closed, numbers = closed_up(graph(*ways))
            left = sorted(come_to(ways, None))
            self.assertEqual(numbers, {number: left.index(number) for number in left})
            wanted = graph(*[[left.index(way) for way in ways[number]] for number in left])
            self.assertEqual(closed.told(), wanted.told())


def come_to(ways, shut):
    """The blocks to which one comes from block 0 without going through the one that is shut."""
    found, waiting = set(), [0] if shut != 0 else []
    while waiting:
        number = waiting.pop()
        if number not in found and number != shut:
            found.add(number)
            waiting.extend(ways[number])
    return found


def ruling(ways):
    """Told anew: a block rules another where nobody comes to that one when it is shut."""
    everyone = come_to(ways, None)
    return [sorted(one for one in everyone if number not in come_to(ways, one)) if number in everyone else []
            for number in range(len(ways))]


class Oracle:
    """Looks at what a code tells as tuples, by going all ways."""

    def __init__(self, code):
        self.functions = dict(code.told())

    def refusal(self):
        if "main" not in self.functions:
            return ("NoCode", "main", 0)
        for name in sorted(self.functions):
            self.takes, self.gives, kinds, self.blocks = self.functions[name]
            self.kinds = dict(kinds)
            amiss = self.first()
            if amiss is not None:
                return ("NoCode", name, amiss)
        return None

    def edges(self, end):
        """Of an end its edges, each with whether a result is handed on."""
        if end[0] == "risk":
            return [(end[4], True)] + [(edge, False) for fault, edge in end[5]]
        return [(edge, False) for edge in {"jump": end[1:], "branch": end[2:]}.get(end[0], ())]

    def first(self):
        count = len(self.blocks)
        self.ways = [[edge[0] for edge, handed in self.edges(block[2])] for block in self.blocks]
        for number in range(count):
            if any(not 1 <= way < count for way in self.ways[number]):
                return number
        given = [name for block in self.blocks for name in self.given(block)]
        if count == 0 or set(given) != set(self.kinds):
            return 0
        for number in range(count):
            ahead = [name for block in self.blocks[:number] for name in self.given(block)]
            here = self.given(self.blocks[number])
            if len(set(here)) < len(here) or set(here) & set(ahead):
                return number
        self.ruling = ruling(self.ways)
        return next((number for number in range(count) if not self.right(number)), None)

    def given(self, block):
        return list(block[0]) + [row[0] for row in block[1] if row[0] is not None]

    def right(self, number):
        params, rows, end = self.blocks[number]
        if not self.ruling[number] or self.on_round(number):
            return False
        if number == 0 and [self.kinds[name] for name in params] != list(self.takes):
            return False
        there = {name for ruler in self.ruling[number] if ruler != number for name in self.given(self.blocks[ruler])}
        there |= set(params)
        for row in rows:
            if not self.row(row) or not self.used(row[3]) <= there:
                return False
            there.add(row[0])
        return self.end(end) and self.used(self.read(end)) <= there

    def read(self, end):
        own = {"branch": [end[1]], "back": [end[1]], "risk": end[3:4] and list(end[3])}.get(end[0], [])
        return own + [arg for edge, handed in self.edges(end) for arg in edge[1]]

    def used(self, operands):
        return {value for word, value in operands if word == "name"}

    def on_round(self, number):
        def quiet(one):
            return all(row[1] != "tick" for row in self.blocks[one][1])
        found, waiting = set(), [number] if quiet(number) else []
        while waiting:
            for way in self.ways[waiting.pop()]:
                if quiet(way) and way not in found:
                    found.add(way)
                    waiting.append(way)
        return number in found

    def kind(self, operand):
        if operand[0] == "name":
            return self.kinds.get(operand[1])
        fits = {"num": int, "truth": bool}.get(operand[0]) is operand[1].__class__
        return (operand[0],) if fits else None

    def row(self, row):
        kinds = [self.kind(operand) for operand in row[3]]
        if row[1] in ("log", "tick"):
            return row[0] is None and row[2] is None and (
                kinds == [] if row[1] == "tick" else kinds in ([NUM], [TRUTH]))
        if row[0] is None or not is_pure(row[1]) or None in kinds:
            return False
        return result_kind(row[1], row[2], kinds) == self.kinds[row[0]]

    def end(self, end):
        result = []
        if end[0] == "branch" and self.kind(end[1]) != TRUTH or end[0] == "back" and self.kind(end[1]) != self.gives:
            return False
        if end[0] == "risk":
            kinds = [self.kind(operand) for operand in end[3]]
            if None in kinds or len({fault for fault, edge in end[5]}) < len(end[5]):
                return False
            if end[1] == "call":
                if end[2] not in self.functions or list(self.functions[end[2]][0]) != kinds:
                    return False
                result = [self.functions[end[2]][1]]
            elif is_risky(end[1]) and result_kind(end[1], end[2], kinds):
                result = [result_kind(end[1], end[2], kinds)]
            else:
                return False
        for edge, handed in self.edges(end):
            kinds = (result if handed else []) + [self.kind(arg) for arg in edge[1]]
            if None in kinds or kinds != [self.kinds[name] for name in self.blocks[edge[0]][0]]:
                return False
        return True


class ByChance(unittest.TestCase):
    """The sample with one to three things put otherwise at a time."""

    def test_first_amiss(self):
        came = {}
        for seed in range(6000):
            chance = Random(seed)
            code = sample_code()
            for change in range(chance.choice([1, 1, 2, 3])):
                code = self.changed(code, chance)
            wanted = Oracle(code).refusal()
            self.assertEqual(refusal(need_fit, code), wanted, (seed, code.told()))
            self.assertIs(is_fit(code), wanted is None)
            came[wanted] = came.get(wanted, 0) + 1
        self.assertGreater(came[None], 300)
        for number in range(8):
            self.assertGreater(came["NoCode", "main", number], 50, came)

    def changed(self, code, chance):
        name = chance.choice(["main", "main", "main", "f", "g"])
        function = code.functions[name]
        number = chance.randrange(len(function.blocks))
        block = function.blocks[number]
        sort = chance.choice(["edges", "operands", "params", "rows", "kinds", "end"])
        if sort == "kinds":
            parts = {"kinds": {chance.randrange(13): chance.choice([NUM, TRUTH, FLAG])}}
        elif sort == "params":
            parts = {"params": chance.choice([block.params[1:], block.params[::-1], block.params + (9,)])}
        elif sort == "rows":
            rows = list(block.rows)
            place = chance.randrange(len(rows) + 1)
            more = [[TICK], [log(n(chance.randrange(12)))], [Row(chance.randrange(13), "neg", None, [n(0)])], []]
            parts = {"rows": rows[:place] + chance.choice(more) + rows[place + chance.randrange(2):]}
        elif sort == "edges":
            other = {chance.randrange(9): chance.randrange(9) for way in range(3)}
            parts = {"end": block.end.moved({}, other)}
        elif sort == "operands":
            names = {chance.randrange(12): chance.choice([n(chance.randrange(12)), num(1), YES, ("num", True)])}
            parts = {"end": block.end.moved(names, {}), "rows": [row.moved(names, {}) for row in block.rows]}
        else:
            parts = {"end": chance.choice([
                Raise("oops"), Back(n(chance.randrange(12))), Jump((4, (n(0),))), Jump((7, ())),
                Risk("mul", None, [n(0), n(2)], (4, ()), []),
                Risk("call", "g", [n(0)], (6, ()), [("a", (7, ())), ("a", (7, ()))])])}
        return code.with_function(name, changed(function, number, **parts))


class Refusals(unittest.TestCase):
    def test_the_class(self):
        with self.assertRaises(NoCode) as caught:
            need_fit(sample(4, end=Back(YES)))
        self.assertEqual((caught.exception.function, caught.exception.block), ("main", 4))


if __name__ == "__main__":
    unittest.main()
