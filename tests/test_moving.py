"""Points 4, 6, 102, 103 and 104: rows moved out of loops."""

import unittest

from eachstepsame.blocks import Back, Block, Branch, Code, Jump, Raise, Risk, Row
from eachstepsame.fits import given_in, need_fit, rulers
from eachstepsame.lowering import lowered
from eachstepsame.loops import loops_of
from eachstepsame.moving import Moved
from eachstepsame.passes import measure
from eachstepsame.rewriting import same_paper
from eachstepsame.typer import typed
from eachstepsame.walk import REASONS, Walk
from tests.helper import (
    FLAG, NO, NUM, TICK, TRUTH, WIDE, YES, Drawer, Tried, add, back, fun, let, log, loop, made, n, name, neg, noted,
    num, own_sheet, put, sample_code, single, told_edges, two,
)


def taken_by_hand(blocks, numbers):
    """A second reading of 103: round by round, until a round takes nothing."""
    given = {one for number in numbers for one in blocks[number][0] + tuple(row[0] for row in blocks[number][1])}
    taken = []
    while True:
        count = len(taken)
        for number in sorted(numbers):
            for row in blocks[number][1]:
                waits = given - {one[0] for one in taken}
                if row[0] is not None and row not in taken and not any(
                        word == "name" and held in waits for word, held in row[3]):
                    taken.append(row)
        if len(taken) == count:
            return taken


def moved_by_hand(told, loops):
    """What is told of a function with these loops behind the rewriting; None where nothing changes."""
    blocks = told[3]
    for head, numbers in loops:
        outside = [number for number in range(len(blocks)) if number not in numbers
                   and head in [edge[0] for edge, handed in told_edges([blocks[number]])]]
        taken = taken_by_hand(blocks, numbers)
        if len(outside) == 1 and blocks[outside[0]][2][0] == "jump" and taken:
            left = [(params, tuple(row for row in rows if row not in taken or row[0] is None), end)
                    for params, rows, end in blocks]
            params, rows, end = left[outside[0]]
            left[outside[0]] = (params, rows + tuple(taken), end)
            return told[:3] + (tuple(left),)
    return None


class Moving(Tried):
    rewriting, without, at_once = Moved, tuple(reason for reason in REASONS if reason != "moved"), False

    def wanted(self, function):
        behind = moved_by_hand(function.told(), loops_of(function))
        return behind and (behind, own_sheet(function.told()))

    def comes(self, code):
        behind = Tried.comes(self, code)
        if behind is not None:
            self.assertTrue(Walk(["kept", "moved"]).lets_by(code, behind, same_paper(code)))
            self.assertEqual(Moved().tried(code)[1], same_paper(code))
            for text, function in code.functions.items():
                there = given_in(behind.functions[text])
                for one, number in given_in(function).items():
                    self.assertIn(there[one], rulers(function)[number])
            self.assertEqual(measure(behind)[:3], measure(code)[:3])
        return behind


def looping(ahead=(), head=(), body=(), left=(), **parts):
    """Block 0 leads to the loop of 1 and 2; 3 is behind it. 0 is a number, 1 a truth, 2 the param of the head."""
    return Code({"main": made(
        [NUM, TRUTH], NUM, Block([0, 1], ahead, Jump((1, (n(0),)))),
        Block([2], [TICK, *head], Branch(parts.get("test", n(1)), (2, ()), (3, ()))),
        Block([], body, Jump((1, (parts.get("again", n(2)),)))),
        Block([], left, Back(parts.get("back", n(2)))), n1=TRUTH, **parts.get("kinds", {}))})


class OneLoop(Moving):
    def test_title(self):
        self.assertEqual(Moved().known_as(), "moved")

    def test_each_operation(self):
        takes = [NUM, TRUTH, WIDE, FLAG]
        kinds = {"n1": TRUTH, "n2": WIDE, "n3": FLAG}

        def code(ahead, inner, kind):
            return Code({"main": made(takes, NUM, Block([0, 1, 2, 3], ahead, Jump((1, ()))),
                                      Block([], [TICK, *inner], Branch(n(1), (1, ()), (2, ()))),
                                      Block([], [], Back(num(1))), n5=kind, **kinds)})
        for op, extra, operands, kind in [
            ("copy", None, [n(0)], NUM), ("copy", None, [n(2)], WIDE), ("copy", None, [YES], TRUTH),
            ("neg", None, [n(0)], NUM), ("neg", None, [num(3)], NUM), ("add", None, [n(0), num(1)], NUM),
            ("sub", None, [n(0), n(0)], NUM), ("less", None, [n(0), num(1)], TRUTH),
            ("same", None, [num(1), num(1)], TRUTH), ("and", None, [n(1), n(1)], TRUTH),
            ("or", None, [n(1), NO], TRUTH), ("not", None, [n(1)], TRUTH), ("make", WIDE, [n(0), num(1)], WIDE),
            ("make", FLAG, [n(1), n(0)], FLAG), ("get", 0, [n(2)], NUM), ("get", 0, [n(3)], TRUTH),
            ("put", 1, [n(2), n(0)], WIDE), ("put", 0, [n(3), YES], FLAG),
        ]:
            row = Row(5, op, extra, operands)
            self.becomes(code([], [row], kind), code([row], [], kind))

    def test_constants_and_names_given_outside(self):
        ahead = looping([neg(3, n(0))], [neg(4, num(1)), add(5, n(3), n(0))], [add(6, n(0), num(2))], again=n(6))
        self.becomes(ahead, looping([neg(3, n(0)), neg(4, num(1)), add(5, n(3), n(0)), add(6, n(0), num(2))],
                                    again=n(6)))

    def test_params_of_the_loop(self):
        self.stays(looping([neg(3, n(0))], [neg(4, n(2)), add(5, n(4), n(3))], [add(6, n(2), n(0))], again=n(6)))
        # The params of its other blocks are given there, too, be they always handed the same.
        code = Code({"main": made([NUM, TRUTH], NUM, Block([0, 1], [], Jump((1, ()))),
                                  Block([], [TICK], Branch(n(1), (2, (n(0),)), (3, ()))),
                                  Block([2], [neg(3, n(2))], Jump((1, ()))), Block([], [], Back(n(0))), n1=TRUTH)})
        self.stays(code)
        # Nor is what is made of a result.
        self.stays(Code({"main": made([NUM, TRUTH], NUM, Block([0, 1], [], Jump((1, ()))),
                                      Block([], [TICK], Risk("mul", None, [n(0), n(0)], (2, ()), [])),
                                      Block([2], [neg(3, n(2))], Branch(n(1), (1, ()), (3, ()))),
                                      Block([], [], Back(n(0))), n1=TRUTH)}))

    def test_rows_that_can_be_moved_themselves(self):
        rows = [neg(3, n(0)), neg(4, n(3)), add(5, n(4), n(3)), neg(6, n(2)), add(7, n(5), n(6))]
        self.becomes(looping(head=rows), looping(rows[:3], rows[3:]))
        self.becomes(looping(body=rows, again=n(7)), looping(rows[:3], body=rows[3:], again=n(7)))
        self.becomes(looping(head=rows[:2], body=rows[2:], again=n(7)), looping(rows[:3], [], rows[3:], again=n(7)))

    def test_one_operand_of_two_is_enough_to_stay(self):
        self.stays(looping(head=[add(3, n(2), num(1)), add(4, num(1), n(2)), add(5, n(3), n(0)), add(6, n(0), n(4))]))

    def test_logs_and_ticks_stay(self):
        self.stays(looping(head=[noted(n(0)), noted(num(1)), TICK, noted(YES)], body=[noted(n(1)), TICK]))
        ahead = looping([TICK, noted(n(0))], [noted(n(0)), neg(3, n(0)), noted(n(3)), TICK, neg(4, n(3)), noted(n(4))])
        behind = looping([TICK, noted(n(0)), neg(3, n(0)), neg(4, n(3))], [noted(n(0)), noted(n(3)), TICK, noted(n(4))])
        self.becomes(ahead, behind)
        for inputs in [[3, True], [3, False]]:
            self.runs_alike(ahead, behind, inputs, range(12))

    def test_risks_stay(self):
        for op, asked in [("div", [n(0), num(0)]), ("mul", [n(0), n(0)]), ("mod", [num(1), num(1)]),
                          ("call", [n(0), NO])]:
            extra = "main" if op == "call" else None
            code = Code({"main": made([NUM, TRUTH], NUM, Block([0, 1], [], Jump((1, ()))),
                                      Block([], [TICK], Branch(n(1), (2, ()), (4, ()))),
                                      Block([], [], Risk(op, extra, asked, (3, ()), [("zero", (3, (num(1),)))])),
                                      Block([2], [], Jump((1, ()))), Block([], [], Back(n(0))), n1=TRUTH)})
            self.stays(code)

    def test_where_the_rows_are_not_come_to_in_every_round(self):
        def code(ahead, yes, no):
            return Code({"main": made(
                [NUM, TRUTH, TRUTH], NUM, Block([0, 1, 2], ahead, Jump((1, (n(1),)))),
                Block([3], [TICK], Branch(n(3), (2, ()), (5, ()))), Block([], [], Branch(n(2), (3, ()), (4, ()))),
                Block([], yes, Jump((1, (n(2),)))), Block([], no, Jump((1, (NO,)))), Block([], [], Back(n(0))),
                n1=TRUTH, n2=TRUTH, n3=TRUTH)})
        rows = [neg(10, n(0)), noted(n(10))]
        ahead = code([], rows, [neg(11, n(0)), noted(n(11)), add(12, n(11), n(0))])
        behind = code([rows[0], neg(11, n(0)), add(12, n(11), n(0))], rows[1:], [noted(n(11))])
        self.becomes(ahead, behind)
        for inputs in [[3, True, True], [3, True, False], [3, False, True]]:
            self.runs_alike(ahead, behind, inputs, range(9))

    def test_what_is_read_behind_the_loop(self):
        ahead = looping(head=[neg(3, n(0)), add(4, n(3), n(2))], left=[add(5, n(3), n(4))], back=n(5))
        self.becomes(ahead, looping([neg(3, n(0))], [add(4, n(3), n(2))], left=[add(5, n(3), n(4))], back=n(5)))

    def test_what_tests_edges_and_risks_read(self):
        def code(ahead, rows):
            return Code({"main": made(
                [NUM], NUM, Block([0], ahead, Jump((1, (n(0),)))),
                Block([1], [TICK, *rows], Branch(n(3), (2, (n(2),)), (4, ()))),
                Block([4], [], Risk("div", None, [n(2), n(4)], (3, (n(2),)), [("zero", (1, (n(2),)))])),
                Block([5, 6], [], Jump((1, (n(2),)))), Block([], [], Back(n(2))), n3=TRUTH)})
        rows = [neg(2, n(0)), Row(3, "less", None, [n(2), num(5)])]
        self.becomes(code([], rows), code(rows, []))

    def test_rows_of_the_block_ahead_and_of_others_stay(self):
        ahead = looping([neg(3, n(0)), neg(9, num(5))], [neg(4, n(0))], [], [neg(5, n(0)), neg(6, n(4))], back=n(6))
        self.becomes(ahead, looping([neg(3, n(0)), neg(9, num(5)), neg(4, n(0))], [], [], [neg(5, n(0)), neg(6, n(4))],
                                    back=n(6)))
        self.stays(looping([neg(3, n(0))], [], [], [neg(5, n(0))]))

    def test_a_block_that_is_its_own_loop(self):
        def code(ahead, rows, body):
            return Code({"main": made([NUM, TRUTH], NUM, Block([0, 1], ahead, Jump((1, (n(0),)))),
                                      Block([2], [TICK, *rows], Branch(n(1), (1, (n(3),)), (2, ()))),
                                      Block([], body, Back(n(2))), n1=TRUTH)})
        self.becomes(code([], [neg(3, n(0)), neg(4, n(2))], []), code([neg(3, n(0))], [neg(4, n(2))], []))

    def test_no_loop(self):
        self.stays(single([neg(1, n(0)), neg(2, num(1))], Back(n(1)), [NUM]))
        self.stays(single([], Back(num(1))))
        self.stays(Code({"main": made([NUM, TRUTH], NUM, Block([0, 1], [], Branch(n(1), (1, ()), (2, ()))),
                                      Block([], [neg(2, n(0))], Jump((3, ()))), Block([], [], Jump((3, ()))),
                                      Block([], [neg(3, n(0))], Back(n(3))), n1=TRUTH)}))

    def test_a_program(self):
        less = two("<", name("i"), two("+", name("n"), num(1)))
        code = lowered(typed(((), (fun("main", [("n", NUM)], NUM, let("i", num(0)), loop(
            less, log(two("+", name("n"), name("n"))), put("i", two("+", name("i"), num(1)))), back(name("i"))),))))
        behind = self.comes(code)
        moved = [row.op for row in behind.functions["main"].blocks[0].rows]
        self.assertEqual(moved, ["add", "add"])
        self.assertIsNone(Moved().tried(behind))
        for given in [-1, 0, 3]:
            self.runs_alike(code, behind, [given], range(8))

    def test_the_sample(self):
        # 5 hangs on the loop's param, and all else does.
        self.stays(sample_code())


class BlockAhead(Moving):
    ROW = neg(8, n(0))

    def with_ways_in(self, *ways):
        """A loop of block 1 by itself, with a row to move, and ahead of it these blocks: 2 and so on."""
        return Code({"main": made([NUM, TRUTH], NUM, *ways[:1], Block([], [TICK, self.ROW], Branch(n(1), (1, ()),
                                                                                                  (2, ()))),
                                  Block([], [], Back(n(0))), *ways[1:], n1=TRUTH)})

    def test_one_by_a_jump(self):
        behind = self.comes(self.with_ways_in(Block([0, 1], [], Jump((1, ())))))
        self.assertEqual(behind.functions["main"].blocks[0].rows[0].told(), self.ROW.told())

    def test_one_by_a_branch(self):
        self.stays(self.with_ways_in(Block([0, 1], [], Branch(n(1), (1, ()), (2, ())))))
        self.stays(self.with_ways_in(Block([0, 1], [], Branch(n(1), (1, ()), (1, ())))))

    def test_one_by_a_risk(self):
        risk = Risk("div", None, [n(0), n(0)], (3, ()), [("zero", (1, ()))])
        self.stays(self.with_ways_in(Block([0, 1], [], risk), Block([3], [], Back(n(3)))))
        # By its own edge, without catches: it is a risk all the same.
        code = Code({"main": made([NUM, TRUTH], NUM, Block([0, 1], [], Risk("mul", None, [n(0), n(0)], (1, ()), [])),
                                  Block([2], [TICK, self.ROW], Branch(n(1), (1, (n(2),)), (2, ()))),
                                  Block([], [], Back(n(0))), n1=TRUTH)})
        self.stays(code)

    def test_several(self):
        self.stays(self.with_ways_in(Block([0, 1], [], Branch(n(1), (3, ()), (4, ()))), Block([], [], Jump((1, ()))),
                                     Block([], [], Jump((1, ())))))
        # One of them is the branch itself.
        self.stays(self.with_ways_in(Block([0, 1], [], Branch(n(1), (3, ()), (1, ()))), Block([], [], Jump((1, ())))))

    def test_one_of_a_greater_number(self):
        behind = self.comes(self.with_ways_in(Block([0, 1], [], Branch(n(1), (3, ()), (2, ()))),
                                              Block([], [noted(n(0))], Jump((1, ())))))
        self.assertEqual([row.name for row in behind.functions["main"].blocks[3].rows], [None, 8])
        self.assertEqual(behind.functions["main"].blocks[0].rows, ())

    def test_one_to_which_one_comes_by_a_risk(self):
        code = self.with_ways_in(Block([0, 1], [], Risk("call", "main", [n(0), NO], (3, ()), [("a", (2, ()))])),
                                 Block([3], [], Jump((1, ()))))
        behind = self.comes(code)
        self.assertEqual([row.name for row in behind.functions["main"].blocks[3].rows], [8])
        # What is given only there may be read by what is moved there.
        code = Code({"main": made([NUM, TRUTH], NUM, Block([0, 1], [], Risk("mul", None, [n(0), n(0)], (3, ()), [])),
                                  Block([], [TICK, neg(4, n(3)), neg(5, n(4))], Branch(n(1), (1, ()), (2, ()))),
                                  Block([], [], Back(n(4))), Block([3], [], Jump((1, ()))), n1=TRUTH)})
        behind = self.comes(code)
        self.assertEqual([row.name for row in behind.functions["main"].blocks[3].rows], [4, 5])
        self.runs_alike(code, behind, [3, False])

    def test_several_edges_back(self):
        code = Code({"main": made([NUM, TRUTH], NUM, Block([0, 1], [], Jump((1, ()))),
                                  Block([], [TICK], Branch(n(1), (2, ()), (3, ()))),
                                  Block([], [neg(2, n(0))], Branch(n(1), (1, ()), (1, ()))),
                                  Block([], [neg(3, n(0))], Branch(n(1), (1, ()), (4, ()))),
                                  Block([], [], Back(n(0))), n1=TRUTH)})
        behind = self.comes(code)
        self.assertEqual([row.name for row in behind.functions["main"].blocks[0].rows], [2, 3])

    def test_an_edge_back_from_outside(self):
        # 3 leads to the head, and the head doesn't rule it; so two lead to it, or just 3.
        ahead = Code({"main": made([NUM, TRUTH], NUM, Block([0, 1], [], Branch(n(1), (1, ()), (3, ()))),
                                   Block([], [TICK, neg(8, n(0))], Branch(n(1), (1, ()), (3, ()))),
                                   Block([], [], Back(n(0))),
                                   Block([], [TICK], Branch(n(1), (1, ()), (2, ()))), n1=TRUTH)})
        self.stays(ahead)
        jump = Code({"main": made([NUM, TRUTH], NUM, Block([0, 1], [], Branch(n(1), (3, ()), (3, ()))),
                                  Block([], [TICK, neg(8, n(0))], Branch(n(1), (1, ()), (2, ()))),
                                  Block([], [], Branch(n(1), (3, ()), (4, ()))),
                                  Block([], [TICK], Jump((1, ()))), Block([], [], Back(n(0))), n1=TRUTH)})
        # Here 3 alone leads to the loop of 1 from outside; to its own loop, which has all three, a branch leads.
        behind = self.comes(jump)
        self.assertEqual([row.name for row in behind.functions["main"].blocks[3].rows], [None, 8])
        self.stays(behind)

    def test_a_head_without_rows(self):
        code = Code({"main": made([NUM, TRUTH], NUM, Block([0, 1], [], Jump((1, ()))),
                                  Block([], [], Branch(n(1), (2, ()), (3, ()))),
                                  Block([], [TICK, neg(4, n(0))], Jump((1, ()))), Block([], [], Raise("oops")),
                                  n1=TRUTH)})
        behind = self.comes(code)
        self.assertEqual([row.name for row in behind.functions["main"].blocks[0].rows], [4])


class Order(Moving):
    def rounds(self, *rows):
        """One comes from 0 to 4, 3, 2, 1 and back to 4, with a row in each, or several."""
        return Code({"main": made([NUM, TRUTH], NUM, Block([0, 1], [], Jump((4, ()))),
                                  Block([], rows[0], Branch(n(1), (4, ()), (5, ()))), Block([], rows[1], Jump((1, ()))),
                                  Block([], rows[2], Jump((2, ()))), Block([], [TICK, *rows[3]], Jump((3, ()))),
                                  Block([], [], Back(n(0))), n1=TRUTH)})

    def taken(self, *rows):
        behind = self.comes(self.rounds(*rows))
        need_fit(behind)
        for truth in [True, False]:
            self.runs_alike(self.rounds(*rows), behind, [5, truth], range(4))
        return [row.name for row in behind.functions["main"].blocks[0].rows]

    def test_by_blocks_and_then_by_rows(self):
        rows = [[neg(20, n(0)), neg(12, n(0))], [neg(9, n(0))], [neg(30, num(1)), neg(11, num(2))], [neg(10, n(0))]]
        self.assertEqual(self.taken(*rows), [20, 12, 9, 30, 11, 10])

    def test_what_waits_for_greater_numbers(self):
        # Each needs the one of the next block: so each is taken in a round of its own.
        rows = [[neg(10, n(11))], [neg(11, n(12))], [neg(12, n(13))], [neg(13, n(0))]]
        self.assertEqual(self.taken(*rows), [13, 12, 11, 10])

    def test_rounds(self):
        # 2 and 4 can be taken at once; then 1 waits for 4, and 3 for 4 too, which stands behind both.
        rows = [[neg(10, n(13))], [neg(11, n(0))], [neg(12, n(13))], [neg(13, n(0))]]
        self.assertEqual(self.taken(*rows), [11, 13, 10, 12])
        # Within one block those ahead are taken ahead, whatever round; what is made of them in the same round.
        rows = [[neg(10, n(13)), neg(20, n(10)), neg(21, n(0)), neg(22, n(21))], [neg(11, n(12))],
                [neg(12, n(13)), neg(23, n(0))], [neg(13, n(0)), neg(24, n(13))]]
        self.assertEqual(self.taken(*rows), [21, 22, 23, 13, 24, 10, 20, 12, 11])

    def test_two_that_are_needed(self):
        rows = [[add(10, n(11), n(13))], [neg(11, n(0))], [add(12, n(13), n(14))], [neg(13, n(0)), neg(14, n(13))]]
        self.assertEqual(self.taken(*rows), [11, 13, 14, 10, 12])
        rows = [[add(10, n(11), n(12))], [neg(11, n(12))], [neg(12, n(0))], [neg(13, num(0))]]
        self.assertEqual(self.taken(*rows), [12, 13, 11, 10])

    def test_behind_the_rows_that_are_there(self):
        code = looping([neg(9, n(0)), noted(n(9))], [neg(3, n(9))], [neg(4, n(3))])
        behind = self.comes(code)
        self.assertEqual([row.name for row in behind.functions["main"].blocks[0].rows], [9, None, 3, 4])

    def test_many_rounds(self):
        # A row of blocks of falling numbers, each needing the one before: a round for each.
        count = 1500
        blocks = [Block([0, 1], [], Jump((count, ())))]
        blocks.append(Block([], [neg(count + 3, n(count + 2))], Branch(n(1), (count, ()), (count + 1, ()))))
        for number in range(2, count + 1):
            place = count - number
            row = neg(4 + place, n(3 + place) if place else n(0))
            blocks.append(Block([], [TICK, row] if place == 0 else [row], Jump((number - 1, ()))))
        blocks.append(Block([], [], Back(n(0))))
        code = Code({"main": made([NUM, TRUTH], NUM, *blocks, n1=TRUTH)})
        need_fit(code)
        behind, paper = Moved().tried(code)
        self.assertEqual([row.name for row in behind.functions["main"].blocks[0].rows],
                         list(range(4, count + 4)))
        self.assertTrue(Moved().holds(code, behind, paper))


class SeveralLoops(Moving):
    def in_a_row(self, first, second, ahead=(), between=()):
        return Code({"main": made([NUM, TRUTH], NUM, Block([0, 1], ahead, Jump((1, ()))),
                                  Block([], [TICK, *first], Branch(n(1), (1, ()), (2, ()))),
                                  Block([], between, Jump((3, ()))),
                                  Block([], [TICK, *second], Branch(n(1), (3, ()), (4, ()))),
                                  Block([], [], Back(n(0))), n1=TRUTH)})

    def test_one_at_a_time(self):
        first, second = [neg(2, n(0))], [neg(3, n(0))]
        self.becomes(self.in_a_row(first, second), self.in_a_row([], second, first))
        self.becomes(self.in_a_row([], second, first), self.in_a_row([], [], first, second))
        self.stays(self.in_a_row([], [], first, second))

    def test_the_first_one_has_nothing_to_move(self):
        self.becomes(self.in_a_row([], [neg(3, n(0))]), self.in_a_row([], [], [], [neg(3, n(0))]))
        # Or it can't be worked on.
        blocks = list(self.in_a_row([neg(2, n(0))], [neg(3, n(0))]).functions["main"].blocks)
        blocks[0] = Block([0, 1], [], Branch(n(1), (1, ()), (4, ())))
        code = Code({"main": made([NUM, TRUTH], NUM, *blocks, n1=TRUTH)})
        behind = self.comes(code)
        self.assertEqual([[row.name for row in block.rows] for block in behind.functions["main"].blocks],
                         [[], [None, 2], [3], [None], []])

    def test_what_the_other_one_gives(self):
        # 2 is given in the first loop, and outside of the second one.
        first, second = [neg(2, num(7)), noted(n(2))], [neg(3, n(2))]
        self.becomes(self.in_a_row(first, second), self.in_a_row(first[1:], second, first[:1]))
        self.becomes(self.in_a_row(first[1:], second, first[:1]),
                     self.in_a_row(first[1:], [], first[:1], second))

    def nested(self, ahead, outer, into, inner, out):
        """The loop of 1 has the blocks 1 to 4, that of 3 itself alone; 2 is the block ahead of it."""
        return Code({"main": made([NUM, TRUTH], NUM, Block([0, 1], ahead, Jump((1, (n(0),)))),
                                  Block([2], [TICK, *outer], Branch(n(1), (2, ()), (5, ()))),
                                  Block([], into, Jump((3, (n(2),)))),
                                  Block([3], [TICK, *inner], Branch(n(1), (3, (n(3),)), (4, ()))),
                                  Block([], out, Jump((1, (n(2),)))), Block([], [], Back(n(2))), n1=TRUTH)})

    def test_within_one_another(self):
        # What hangs on nothing goes out of the outer one at once, what hangs on its param but out of the inner one.
        inner = [neg(10, n(0)), neg(11, n(2)), neg(12, n(3)), add(13, n(10), n(11))]
        ahead = self.nested([], [neg(14, n(0))], [], inner, [neg(15, n(0))])
        first = self.nested([neg(14, n(0)), inner[0], neg(15, n(0))], [], [], inner[1:], [])
        last = self.nested([neg(14, n(0)), inner[0], neg(15, n(0))], [], [inner[1], inner[3]], [inner[2]], [])
        self.becomes(ahead, first)
        self.becomes(first, last)
        self.stays(last)
        for inputs in [[4, True], [4, False]]:
            self.runs_alike(ahead, last, inputs, range(9))

    def test_the_inner_one_has_the_lower_head(self):
        # By heads: the loop of 1 lies in that of 2.
        def code(ahead, into, inner, outer):
            return Code({"main": made([NUM, TRUTH], NUM, Block([0, 1], ahead, Jump((2, ()))),
                                      Block([], [TICK, *inner], Branch(n(1), (1, ()), (4, ()))),
                                      Block([], [TICK, *outer], Jump((3, ()))), Block([], into, Jump((1, ()))),
                                      Block([], [], Branch(n(1), (2, ()), (5, ()))), Block([], [], Back(n(0))),
                                      n1=TRUTH)})
        row, other = neg(2, n(0)), neg(3, n(0))
        self.becomes(code([], [], [row], [other]), code([], [row], [], [other]))
        self.becomes(code([], [row], [], [other]), code([other, row], [], [], []))

    def test_each_function_by_itself(self):
        first, second = [neg(2, n(0))], [neg(3, n(0))]
        ahead = self.in_a_row(first, second)
        ahead = ahead.with_function("f", self.in_a_row([], second).functions["main"])
        ahead = ahead.with_function("g", self.in_a_row([], []).functions["main"])
        behind = self.in_a_row([], second, first)
        behind = behind.with_function("f", self.in_a_row([], [], [], second).functions["main"])
        behind = behind.with_function("g", self.in_a_row([], []).functions["main"])
        self.becomes(ahead, behind)


class LetBy(unittest.TestCase):
    """Point 104: the walk that allows kept and moved alone."""

    def holds(self, ahead, behind, paper=None):
        need_fit(ahead)
        need_fit(behind)
        paper = paper or same_paper(ahead)
        self.assertIs(Moved().holds(ahead, behind, paper), Walk(["moved"]).lets_by(ahead, behind, paper))
        return Moved().holds(ahead, behind, paper)

    def test_by_hand(self):
        rows = [neg(3, n(0)), neg(4, n(3))]
        ahead = looping(head=[rows[0]], body=[rows[1]])
        # Whoever moved it, in whatever order, and however far; back again, too.
        for behind in [looping(rows), looping([rows[0]], [rows[1]]), looping([rows[0]], [], [rows[1]]),
                       looping([], rows), ahead]:
            self.assertTrue(self.holds(ahead, behind))
            self.assertTrue(self.holds(behind, ahead))
        self.assertTrue(self.holds(looping([neg(3, n(0)), neg(4, n(0))]), looping([neg(4, n(0)), neg(3, n(0))])))
        # More rows behind, and names without an image.
        self.assertTrue(self.holds(ahead, looping(rows + [neg(9, n(0))])))
        paper = same_paper(ahead)
        paper["main"][1].pop(4)
        self.assertTrue(self.holds(ahead, looping(rows[:1]), paper))

    def test_a_row_moved_where_it_does_not_rule(self):
        # What is read at once where it isn't given is not well made.
        ahead = looping(head=[neg(3, n(0))], left=[neg(4, n(3))], back=n(4))
        behind = looping(body=[neg(3, n(0))], left=[neg(4, n(3))], back=n(4))
        self.assertIs(Moved().holds(ahead, behind, same_paper(ahead)), False)
        # A row that hangs on the loop's param, moved ahead of it, neither.
        ahead = looping(head=[neg(3, n(2))])
        self.assertIs(Moved().holds(ahead, looping([neg(3, n(2))]), same_paper(ahead)), False)
        # Put so that it reads what is handed to the param first: it is another row.
        self.assertFalse(self.holds(ahead, looping([neg(3, n(0))])))

    def test_other_reasons(self):
        copied, folded = Row(3, "copy", None, [n(0)]), add(3, num(1), num(2))
        plain = add(3, n(0), num(0))
        for row, operand in [(copied, n(0)), (folded, num(3)), (plain, n(0))]:
            ahead, behind = looping(head=[row, noted(n(3))]), looping(head=[noted(operand)])
            paper = same_paper(ahead)
            paper["main"][1][3] = operand
            self.assertFalse(self.holds(ahead, behind, paper))
            self.assertTrue(Walk(REASONS).lets_by(ahead, behind, paper))
            self.assertTrue(self.holds(ahead, looping([row], [noted(n(3))])))
        ahead = looping(test=YES)
        blocks = list(ahead.functions["main"].blocks)
        blocks[1] = Block([2], [TICK], Jump((2, ())))
        behind = Code({"main": made([NUM, TRUTH], NUM, *blocks[:3], n1=TRUTH)})
        paper = {"main": ({0: 0, 1: 1, 2: 2}, {0: n(0), 1: n(1), 2: n(2)})}
        self.assertFalse(self.holds(ahead, behind, paper))
        self.assertTrue(Walk(REASONS).lets_by(ahead, behind, paper))
        # A param that is always handed the same.
        blocks = list(ahead.functions["main"].blocks)
        blocks[:3] = [Block([0, 1], [], Jump((1, ()))), Block([], [TICK], blocks[1].end), Block([], [], Jump((1, ())))]
        blocks[3] = Block([], [], Back(n(0)))
        behind = Code({"main": made([NUM, TRUTH], NUM, *blocks, n1=TRUTH)})
        paper = same_paper(behind)
        paper["main"][1][2] = n(0)
        self.assertFalse(self.holds(ahead, behind, paper))
        self.assertTrue(Walk(REASONS).lets_by(ahead, behind, paper))

    def test_logs_and_ticks_moved(self):
        for row in [noted(n(0)), TICK]:
            self.assertFalse(self.holds(looping(head=[row]), looping([row])))
            self.assertFalse(self.holds(looping([row]), looping(head=[row])))
            self.assertFalse(self.holds(looping(head=[row]), looping()))

    def test_another_row(self):
        ahead = looping(head=[neg(3, n(0))])
        for row in [neg(3, num(0)), add(3, n(0), n(0)), Row(3, "copy", None, [n(0)]), neg(3, num(1))]:
            self.assertFalse(self.holds(ahead, looping([row])))
        # The same row by another name, with a paper that tells so.
        paper = same_paper(ahead)
        paper["main"][1][3] = n(7)
        self.assertTrue(self.holds(ahead, looping([neg(7, n(0))]), paper))


class ByChance(Moving):
    def test_of_programs(self):
        self.assertGreater(self.changes_of_sown(700), 40)

    def test_of_drawn_codes(self):
        self.assertGreater(self.changes_of_drawn(900), 100)

    def test_again_and_again(self):
        # Each time the measure is less; so there is an end, and there no loop that it can work on has such a row.
        self.assertGreater(self.changes_of_drawn(150, size=14), 30)
        for seed in range(100):
            code = Drawer(seed, size=12).code()
            while code is not None:
                code = self.comes(code)


if __name__ == "__main__":
    unittest.main()
