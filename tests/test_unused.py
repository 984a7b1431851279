"""Points 4, 6, 90 and 92: rows and params that nobody needs."""

import unittest

from eachstepsame.blocks import Back, Block, Branch, Code, Jump, Raise, Risk, Row
from eachstepsame.unused import Unused
from eachstepsame.walk import Walk
from tests.helper import (
    FLAG, NO, NUM, TICK, TRUTH, WIDE, YES, Tried, add, all_handed, cut, made, n, neg, noted, num, own_sheet, single,
)


def names_needed(told):
    """A second reading of 90: what is needed by what is needed already, until there is no more."""
    handed = all_handed(told)
    needed = set(told[3][0][0]) | {name for name, operands in handed.items() if None in operands}
    for params, rows, end in told[3]:
        read = [operand for row in rows if row[1] == "log" for operand in row[3]]
        read += end[1:2] if end[0] in ("branch", "back") else end[3] if end[0] == "risk" else ()
        needed |= {operand[1] for operand in read if operand[0] == "name"}
    made_of = {name: [operand for operand in operands if operand] for name, operands in handed.items()}
    made_of.update({row[0]: row[3] for params, rows, end in told[3] for row in rows if row[0] is not None})
    while True:
        more = {operand[1] for name in needed for operand in made_of.get(name, []) if operand[0] == "name"}
        if more <= needed:
            return needed
        needed |= more


class Needed(Tried):
    rewriting = Unused

    def wanted(self, function):
        told, needed = function.told(), names_needed(function.told())
        gone = [name for name, kind in told[2] if name not in needed]
        behind = cut(told, gone, {})
        return (behind, own_sheet(behind)) if gone else None

    def comes(self, code):
        behind = Tried.comes(self, code)
        if behind is not None:
            # It has no reasons: whatever walk there is lets it by.
            self.assertTrue(Walk([]).lets_by(code, behind, Unused().tried(code)[1]))
        return behind


class Rows(Needed):
    def test_title(self):
        self.assertEqual(Unused().known_as(), "unused")

    def test_each_operation(self):
        for op, extra, operands, kind in [
            ("copy", None, [n(0)], NUM), ("copy", None, [n(2)], WIDE), ("copy", None, [YES], TRUTH),
            ("neg", None, [n(0)], NUM), ("add", None, [n(0), num(1)], NUM), ("sub", None, [n(0), n(0)], NUM),
            ("less", None, [n(0), num(1)], TRUTH), ("same", None, [num(1), num(1)], TRUTH),
            ("and", None, [n(1), n(1)], TRUTH), ("or", None, [n(1), NO], TRUTH), ("not", None, [n(1)], TRUTH),
            ("make", WIDE, [n(0), num(1)], WIDE), ("make", FLAG, [n(1), n(0)], FLAG), ("get", 0, [n(2)], NUM),
            ("put", 1, [n(2), n(0)], WIDE),
        ]:
            takes = [NUM, TRUTH, WIDE]
            self.becomes(single([Row(3, op, extra, operands)], Back(n(0)), takes, n1=TRUTH, n2=WIDE, n3=kind),
                         single([], Back(n(0)), takes, n1=TRUTH, n2=WIDE))
            # The same row stays where it is read.
            self.stays(single([Row(3, op, extra, operands)], Back(n(3)), takes, kind, n1=TRUTH, n2=WIDE, n3=kind))

    def test_read_by_rows_that_are_not_needed(self):
        rows = [neg(1, n(0)), neg(2, n(1)), add(3, n(2), n(1)), neg(4, n(0)), add(5, n(4), num(1)), neg(6, n(5))]
        self.becomes(single(rows, Back(n(5)), [NUM]), single([rows[3], rows[4]], Back(n(5)), [NUM]))

    def test_read_by_rows_that_are_needed(self):
        self.stays(single([neg(1, n(0)), neg(2, n(1)), add(3, n(2), n(1))], Back(n(3)), [NUM]))

    def test_logs_and_ticks_stay(self):
        self.stays(single([TICK, noted(num(1)), TICK, noted(YES)], Back(num(1))))
        self.becomes(single([TICK, neg(1, n(0)), noted(n(1)), neg(2, n(1)), TICK], Back(num(1)), [NUM]),
                     single([TICK, neg(1, n(0)), noted(n(1)), TICK], Back(num(1)), [NUM]))
        # A tick reads nothing; and what stands behind a log is needed all the same.
        self.becomes(single([TICK, neg(1, n(0))], Raise("oops"), [NUM]), single([TICK], Raise("oops"), [NUM]))

    def test_what_reads(self):
        less = Row(1, "less", None, [n(0), num(1)])
        raising = Block([], [], Raise("oops"))

        def code(rows, end, *more, **kinds):
            return Code({"main": made([NUM], NUM, Block([0], rows, end), *more, **kinds)})
        # A log, a test, a back, and what a risk asks, of an operation or of a call.
        self.stays(single([neg(1, n(0)), noted(n(1))], Raise("oops"), [NUM]))
        self.stays(code([less], Branch(n(1), (1, ()), (1, ())), raising, n1=TRUTH))
        self.stays(single([neg(1, n(0))], Back(n(1)), [NUM]))
        for place in range(2):
            asked = [n(1) if place == other else num(3) for other in range(2)]
            for op in ["mul", "div", "mod"]:
                self.stays(code([neg(1, n(0))], Risk(op, None, asked, (1, ()), []), Block([2], [], Raise("oops"))))
        self.stays(code([neg(1, n(0))], Risk("call", "main", [n(1)], (1, ()), []), Block([2], [], Raise("oops"))))
        make = Row(1, "make", WIDE, [n(0), n(0)])
        for op, asked, kind in [("pick", [n(1), num(0)], NUM), ("lay", [n(1), num(0), num(1)], WIDE)]:
            self.stays(code([make], Risk(op, None, asked, (1, ()), []), Block([2], [], Raise("oops")), n1=WIDE,
                            n2=kind))

    def test_in_other_blocks(self):
        def code(first, second, third):
            return Code({"main": made([NUM, TRUTH], NUM, Block([0, 1], first, Branch(n(1), (1, ()), (2, ()))),
                                      Block([], second, Back(num(1))), Block([], third, Back(n(2))), n1=TRUTH)})
        self.becomes(code([neg(2, n(0)), neg(3, n(0))], [add(4, n(3), n(2)), neg(5, n(4))], [neg(6, n(3))]),
                     code([neg(2, n(0))], [], []))
        # Read on one way is needed on both.
        self.stays(code([neg(2, n(0)), neg(3, n(0))], [noted(n(3))], []))

    def test_nothing_to_leave_out(self):
        self.stays(single([], Back(num(1))))
        self.stays(single([], Back(num(1)), [NUM, TRUTH, WIDE], n1=TRUTH, n2=WIDE))


class Params(Needed):
    def meeting(self, left, right, params, rows, end=None):
        return Code({"main": made([NUM, NUM, TRUTH], NUM, Block([0, 1, 2], [], Branch(n(2), (1, ()), (2, ()))),
                                  Block([], [], Jump((3, left))), Block([], [], Jump((3, right))),
                                  Block(params, rows, end or Raise("oops")), n2=TRUTH)})

    def test_with_their_args_on_all_edges(self):
        self.becomes(self.meeting((n(0), num(1)), (n(1), num(2)), [5, 6], [noted(n(6))]),
                     self.meeting((num(1),), (num(2),), [6], [noted(n(6))]))
        self.becomes(self.meeting((n(0), num(1)), (n(1), num(2)), [5, 6], [noted(n(5))]),
                     self.meeting((n(0),), (n(1),), [5], [noted(n(5))]))
        self.becomes(self.meeting((n(0), num(1)), (n(1), num(2)), [5, 6], []), self.meeting((), (), [], []))
        args = [(num(10 * side), num(10 * side + 1), num(10 * side + 2), num(10 * side + 3)) for side in range(2)]
        self.becomes(self.meeting(*args, [5, 6, 7, 8], [noted(n(6))], Back(n(8))),
                     self.meeting(*[arg[1::2] for arg in args], [6, 8], [noted(n(6))], Back(n(8))))

    def test_read_in_some_way(self):
        for rows, end in [([noted(n(5))], None), ([], Back(n(5))), ([neg(6, n(5)), noted(n(6))], None)]:
            self.stays(self.meeting((n(0),), (num(1),), [5], rows, end))
        self.becomes(self.meeting((n(0),), (num(1),), [5], [neg(6, n(5)), neg(7, n(6))]),
                     self.meeting((), (), [], []))

    def test_rows_that_are_but_handed_on(self):
        def code(rows, args, params, back):
            return Code({"main": made([NUM], NUM, Block([0], rows, Jump((1, args))), Block(params, [], Back(back)))})
        rows = [neg(1, n(0)), neg(2, n(0)), add(3, n(1), n(2))]
        self.becomes(code(rows, (n(3), n(1)), [4, 5], n(5)), code(rows[:1], (n(1),), [5], n(5)))
        self.stays(code(rows, (n(3),), [4], n(4)))
        self.becomes(code(rows, (n(3), n(2), num(1)), [4, 5, 6], num(0)), code([], (), [], num(0)))

    def test_handed_along_some_edge(self):
        # What one edge hands on is needed, what the other one has beside it is a constant.
        self.stays(Code({"main": made([NUM, TRUTH], NUM, Block([0, 1], [neg(2, n(0))], Branch(n(1), (1, ()), (2, ()))),
                                      Block([], [], Jump((3, (n(2),)))), Block([], [], Jump((3, (num(1),)))),
                                      Block([3], [], Back(n(3))), n1=TRUTH)}))

    def test_the_first_blocks_params_stay(self):
        self.stays(single([], Back(num(1)), [NUM, NUM]))
        self.becomes(single([neg(2, n(0))], Raise("oops"), [NUM, NUM]), single([], Raise("oops"), [NUM, NUM]))

    def test_both_sides_of_a_branch_and_catches(self):
        def code(yes, no, well, caught, params, kept):
            return Code({"main": made([NUM, TRUTH], NUM, Block([0, 1], [], Branch(n(1), (1, yes), (1, no))),
                                      Block(params[0], [], Risk("div", None, [n(0), n(0)], (2, well),
                                                                [("zero", (3, caught)), ("oops", (3, caught))])),
                                      Block(params[1], [], Back(n(8))), Block(params[2], kept, Raise("oops")),
                                      n1=TRUTH)})
        self.becomes(code((n(0), num(1)), (num(2), n(0)), (n(3), n(4)), (num(9), n(4)), [[3, 4], [6, 7, 8], [10, 11]],
                          [noted(n(11))]),
                     code((num(1),), (n(0),), (n(4),), (n(4),), [[4], [6, 8], [11]], [noted(n(11))]))

    def test_the_first_param_of_a_block_to_which_a_result_is_handed(self):
        def code(op, rows, well, caught, params):
            asked = [n(0), n(0)]
            return Code({"main": made([NUM, NUM], NUM, Block([0, 1], rows, Risk(op, "main" if op == "call" else None,
                                                                                asked, (1, well),
                                                                                [("zero", (1, caught))])),
                                      Block(params, [], Back(num(1))))})
        for op in ["mul", "div", "mod", "call"]:
            # It stays, and what is handed to it along other edges is needed.
            self.stays(code(op, [neg(2, n(1))], (), (n(2),), [3]))
            self.becomes(code(op, [neg(2, n(1)), neg(4, n(1))], (n(4), num(1)), (n(2), n(4), num(2)), [3, 5, 6]),
                         code(op, [neg(2, n(1))], (), (n(2),), [3]))
        # Only of blocks to which a result is handed.
        self.becomes(Code({"main": made([NUM], NUM, Block([0], [], Risk("mul", None, [n(0), n(0)], (1, ()), [])),
                                        Block([1], [], Jump((2, (n(0),)))), Block([2], [], Back(num(1))))}),
                     Code({"main": made([NUM], NUM, Block([0], [], Risk("mul", None, [n(0), n(0)], (1, ()), [])),
                                        Block([1], [], Jump((2, ()))), Block([], [], Back(num(1))))}))

    def test_a_block_that_is_come_to_by_many_edges(self):
        def code(kept):
            def args(number):
                return (n(0),) if kept else (num(number), n(0), num(-number))
            blocks = [Block([0, 1], [], Branch(n(1), (1, ()), (9, args(0))))]
            for number in range(1, 8):
                blocks.append(Block([], [], Branch(n(1), (9, args(number)), (number + 1, ()))))
            blocks.append(Block([], [], Jump((9, args(8)))))
            blocks.append(Block([3] if kept else [2, 3, 4], [], Back(n(3))))
            return Code({"main": made([NUM, TRUTH], NUM, *blocks, n1=TRUTH)})
        self.becomes(code(False), code(True))


class Loops(Needed):
    def loop(self, entry, again, params, rows, back=num(0), test=n(1), head=()):
        return Code({"main": made([NUM, TRUTH], NUM, Block([0, 1], [], Jump((1, entry))),
                                  Block(params, [TICK, *head], Branch(test, (2, ()), (3, ()))),
                                  Block([], rows, Jump((1, again))), Block([], [], Back(back)), n1=TRUTH, n9=TRUTH)})

    def test_that_need_but_each_other(self):
        nothing = self.loop((), (), [], [])
        self.becomes(self.loop((n(0),), (n(4),), [3], [add(4, n(3), num(1))]), nothing)
        self.becomes(self.loop((n(0),), (n(3),), [3], []), nothing)
        self.becomes(self.loop((n(0), num(1)), (n(4), n(3)), [3, 4], []), nothing)
        self.becomes(self.loop((n(0), num(1)), (n(5), n(6)), [3, 4], [add(5, n(4), n(3)), add(6, n(5), n(4))]),
                     nothing)
        # In the head, too.
        self.becomes(self.loop((n(0),), (n(5),), [3], [], head=[neg(4, n(3)), neg(5, n(4))]), nothing)

    def test_that_are_read_within_or_behind(self):
        ahead = self.loop((n(0),), (n(4),), [3], [add(4, n(3), num(1))], n(3))
        self.stays(ahead)
        self.stays(self.loop((n(0),), (n(4),), [3], [add(4, n(3), num(1)), noted(n(3))]))
        self.stays(self.loop((n(0),), (n(4),), [3], [add(4, n(3), num(1)), noted(n(4))]))
        self.stays(self.loop((n(0),), (n(4),), [3], [add(4, n(3), num(1))], num(0), n(9),
                             [Row(9, "less", None, [n(3), num(5)])]))
        # Of two that hand each other on one is read: so both are needed.
        self.stays(self.loop((n(0), num(1)), (n(4), n(3)), [3, 4], [], n(4)))

    def test_one_of_two(self):
        self.becomes(self.loop((n(0), num(1)), (n(5), n(6)), [3, 4], [add(5, n(3), num(1)), add(6, n(4), n(5))], n(3)),
                     self.loop((n(0),), (n(5),), [3], [add(5, n(3), num(1))], n(3)))
        self.stays(self.loop((n(0), num(1)), (n(5), n(6)), [3, 4], [add(5, n(3), num(1)), add(6, n(4), n(5))], n(4)))

    def test_a_loop_within_a_loop(self):
        # 3 and 5 hand each other on through both loops, 4 and 6 as well; 6 is logged.
        def code(one, two, three, four, params):
            return Code({"main": made([NUM, TRUTH], NUM, Block([0, 1], [], Jump((1, one))),
                                      Block(params[0], [TICK], Jump((2, two))),
                                      Block(params[1], [TICK, noted(n(6))], Branch(n(1), (2, three), (3, ()))),
                                      Block([], [], Branch(n(1), (1, four), (4, ()))), Block([], [], Back(num(1))),
                                      n1=TRUTH)})
        self.becomes(code((n(0), num(2)), (n(3), n(4)), (n(5), n(6)), (n(5), n(6)), [[3, 4], [5, 6]]),
                     code((num(2),), (n(4),), (n(6),), (n(6),), [[4], [6]]))

    def test_a_call_in_a_loop(self):
        def code(entry, again, rows, params):
            return Code({"main": made([NUM, TRUTH], NUM, Block([0, 1], [], Jump((1, entry))),
                                      Block(params[0], [TICK], Risk("call", "main", [n(0), n(1)], (2, again), [])),
                                      Block(params[1], rows, Jump((1, entry))), n1=TRUTH)})
        # The result is needed by nobody, but handed on all the same; the call stays.
        self.becomes(code((n(0),), (n(3),), [neg(6, n(4)), neg(7, n(5))], [[3], [4, 5]]),
                     code((), (), [], [[], [4]]))

    def test_great_functions(self):
        count = 4900
        # Each hands two names on, of which the last one reads one.
        blocks = [Block([0, 1], [], Jump((1, (n(0), n(1)))))]
        for number in range(1, count):
            blocks.append(Block([2 * number, 2 * number + 1], [], Jump((number + 1, (n(2 * number),
                                                                                    n(2 * number + 1))))))
        blocks.append(Block([2 * count, 2 * count + 1], [], Back(n(2 * count))))
        ahead = Code({"main": made([NUM, NUM], NUM, *blocks)})
        behind, paper = Unused().tried(ahead)
        self.assertEqual(sorted(behind.functions["main"].kinds), sorted([1] + [2 * number for number in
                                                                               range(count + 1)]))
        self.assertTrue(Unused().holds(ahead, behind, paper))


class ByChance(Needed):
    def test_of_programs(self):
        self.assertGreater(self.changes_of_sown(600), 300)

    def test_of_drawn_codes(self):
        self.assertGreater(self.changes_of_drawn(700), 500)


if __name__ == "__main__":
    unittest.main()
