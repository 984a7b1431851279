"""Points 4, 6, 91 and 92: like rows."""

import unittest

from eachstepsame.blocks import Back, Block, Branch, Code, Jump, Raise, Risk, Row
from eachstepsame.fits import given_in, rulers
from eachstepsame.likes import Likes
from eachstepsame.walk import REASONS, Walk
from tests.helper import (
    FLAG, NO, NUM, TICK, TRUTH, WIDE, YES, Tried, add, cut, made, n, neg, noted, num, own_sheet, sample_code, single,
)


class Images:
    """A second reading of 91: each name's image is asked for by itself, from all rows that are like its own one."""

    def __init__(self, function):
        self.function, self.above, self.known = function, rulers(function), {}
        self.rows = {row.name: (number, place, row) for number, block in enumerate(function.blocks)
                     for place, row in enumerate(block.rows) if row.name is not None}

    def of(self, operand):
        if operand[0] != "name" or operand[1] not in self.rows:
            return operand
        if operand[1] not in self.known:
            found = {self.of(n(other)) for other in self.rows if self.is_like(other, operand[1])}
            if len(found) > 1:
                raise AssertionError(found)
            self.known[operand[1]] = found.pop() if found else operand
        return self.known[operand[1]]

    def is_like(self, other, name):
        there, place, row = self.rows[other]
        here, limit, line = self.rows[name]
        if place >= limit if there == here else there not in self.above[here]:
            return False
        if (row.op, row.extra, len(row.operands)) != (line.op, line.extra, len(line.operands)):
            return False
        return all(self.of(one) == self.of(two) for one, two in zip(row.operands, line.operands))

    def told(self):
        images = {name: self.of(n(name)) for name in self.function.kinds}
        gone = [name for name, operand in images.items() if operand != n(name)]
        told = self.function.told()
        return (cut(told, gone, images), (own_sheet(told)[0], images)) if gone else None


class Like(Tried):
    rewriting, without = Likes, tuple(reason for reason in REASONS if reason != "moved")

    def wanted(self, function):
        return Images(function).told()

    def is_needed(self, code, paper):
        """Rows that are like within their block are kept; so it needs its reason only where some other one goes."""
        for text, function in code.functions.items():
            givers = given_in(function)
            for name, operand in paper[text][1].items():
                if givers[name] != givers[operand[1]]:
                    return True
        return False

    def comes(self, code):
        behind = Tried.comes(self, code)
        if behind is not None:
            paper = Likes().tried(code)[1]
            self.assertIs(Walk([]).lets_by(code, behind, paper), not self.is_needed(code, paper))
        return behind


class OneBlock(Like):
    def test_title(self):
        self.assertEqual(Likes().known_as(), "likes")

    def test_each_operation(self):
        kinds = {"n1": NUM, "n2": TRUTH, "n3": TRUTH, "n4": WIDE, "n5": FLAG}
        takes = [NUM, NUM, TRUTH, TRUTH, WIDE, FLAG]
        for op, extra, operands, kind in [
            ("copy", None, [n(0)], NUM), ("copy", None, [n(4)], WIDE), ("copy", None, [YES], TRUTH),
            ("neg", None, [n(0)], NUM), ("add", None, [n(0), n(1)], NUM), ("sub", None, [n(0), num(3)], NUM),
            ("less", None, [n(0), n(1)], TRUTH), ("same", None, [n(0), n(0)], TRUTH),
            ("and", None, [n(2), n(3)], TRUTH), ("or", None, [n(2), NO], TRUTH), ("not", None, [n(2)], TRUTH),
            ("make", WIDE, [n(0), n(1)], WIDE), ("make", FLAG, [n(2), n(0)], FLAG), ("get", 1, [n(4)], NUM),
            ("get", 0, [n(5)], TRUTH), ("put", 1, [n(4), n(0)], WIDE), ("put", 0, [n(5), n(2)], FLAG),
        ]:
            rows = [Row(name, op, extra, operands) for name in [8, 7]]
            self.becomes(single(rows, Back(n(7)), takes, kind, n7=kind, n8=kind, **kinds),
                         single(rows[:1], Back(n(8)), takes, kind, n8=kind, **kinds))

    def test_three_and_more(self):
        rows = [add(3, n(0), n(1)), add(9, n(0), n(1)), noted(n(9)), add(4, n(0), n(1)), TICK, add(2, n(0), n(1)),
                add(5, n(4), n(2))]
        self.becomes(single(rows, Back(n(5)), [NUM, NUM]),
                     single([rows[0], noted(n(3)), TICK, add(5, n(3), n(3))], Back(n(5)), [NUM, NUM]))

    def test_by_the_images_of_their_operands(self):
        rows = [neg(1, n(0)), neg(2, n(0)), add(3, n(1), num(5)), add(4, n(2), num(5)), neg(5, n(3)), neg(6, n(4)),
                add(7, n(5), n(6))]
        self.becomes(single(rows, Back(n(7)), [NUM]),
                     single([rows[0], rows[2], rows[4], add(7, n(5), n(5))], Back(n(7)), [NUM]))

    def test_unlike_extras(self):
        made_row, other = Row(1, "make", WIDE, [n(0), n(0)]), ("record", (NUM, NUM))
        for rows, kinds in [
            ([made_row, Row(2, "get", 0, [n(1)]), Row(3, "get", 1, [n(1)])], {}),
            ([made_row, Row(2, "put", 0, [n(1), n(0)]), Row(3, "put", 1, [n(1), n(0)])], {"n2": WIDE, "n3": WIDE}),
            ([made_row, Row(2, "make", other, [n(0), n(0)])], {"n2": other}),
        ]:
            self.stays(single(rows, Back(n(0)), [NUM], n1=WIDE, **kinds))
        # Nor are rows of one number, and records of one that is a number, the same.
        self.stays(single([Row(1, "make", ("row", 1), [n(0)]), Row(2, "make", ("record", (NUM,)), [n(0)])],
                          Back(n(0)), [NUM], n1=("row", 1), n2=("record", (NUM,))))

    def test_operands_turned_about(self):
        for op, kind in [("add", NUM), ("sub", NUM), ("less", TRUTH), ("same", TRUTH)]:
            self.stays(single([Row(2, op, None, [n(0), n(1)]), Row(3, op, None, [n(1), n(0)])], Back(num(1)),
                              [NUM, NUM], n2=kind, n3=kind))
        for op in ["and", "or"]:
            self.stays(single([Row(2, op, None, [n(0), n(1)]), Row(3, op, None, [n(1), n(0)])], Back(num(1)),
                              [TRUTH, TRUTH], n0=TRUTH, n1=TRUTH, n2=TRUTH, n3=TRUTH))
        self.stays(single([Row(2, "make", WIDE, [n(0), n(1)]), Row(3, "make", WIDE, [n(1), n(0)])], Back(num(1)),
                          [NUM, NUM], n2=WIDE, n3=WIDE))

    def test_a_number_and_a_truth(self):
        for number, truth in [(1, True), (0, False)]:
            self.stays(single([Row(1, "copy", None, [num(number)]), Row(2, "copy", None, [("truth", truth)])],
                              Back(n(1)), [NUM], n2=TRUTH))
            self.stays(single([Row(1, "copy", None, [("truth", truth)]), Row(2, "copy", None, [num(number)])],
                              Back(n(2)), [NUM], n1=TRUTH))
        # A name and a constant of the same number are not the same either.
        self.stays(single([neg(1, n(0)), neg(2, num(0)), neg(3, num(1))], Back(n(1)), [NUM]))

    def test_unlike_operations_and_operands(self):
        self.stays(single([add(2, n(0), n(1)), Row(3, "sub", None, [n(0), n(1)]), add(4, n(0), n(0)),
                           add(5, n(0), num(1)), add(6, n(0), num(2)), neg(7, n(0)), neg(8, n(1)),
                           Row(9, "copy", None, [n(0)]), Row(10, "copy", None, [n(1)])], Back(n(2)), [NUM, NUM]))
        # Both give the same, but they are not like.
        self.stays(single([add(1, num(1), num(2)), add(2, num(2), num(1)), add(3, num(0), num(3))], Back(n(1))))

    def test_logs_and_ticks_stay(self):
        self.stays(single([noted(n(0)), noted(n(0)), TICK, TICK, noted(n(0)), noted(YES), noted(YES)], Back(n(0)),
                          [NUM]))

    def test_nothing_to_leave_out(self):
        self.stays(single([], Back(num(1))))
        self.stays(sample_code())


class Blocks(Like):
    def test_a_block_that_rules(self):
        def code(first, second, third, one, other):
            return Code({"main": made([NUM, TRUTH], NUM, Block([0, 1], first, Branch(n(1), (1, ()), (2, ()))),
                                      Block([], second, Back(one)), Block([], third, Jump((3, (other,)))),
                                      Block([5], [], Back(n(5))), n1=TRUTH)})
        self.becomes(code([neg(2, n(0))], [neg(3, n(0))], [neg(4, n(0))], n(3), n(4)),
                     code([neg(2, n(0))], [], [], n(2), n(2)))
        # Neither side rules the other one.
        self.stays(code([], [neg(3, n(0))], [neg(4, n(0))], n(3), n(4)))
        self.becomes(code([neg(2, n(0))], [neg(3, n(0)), add(6, n(3), num(1))], [neg(4, n(0)), add(7, n(4), num(1))],
                          n(6), n(7)),
                     code([neg(2, n(0))], [add(6, n(2), num(1))], [add(7, n(2), num(1))], n(6), n(7)))

    def meeting(self, first, left, right, last, back):
        return Code({"main": made([NUM, TRUTH], NUM, Block([0, 1], first, Branch(n(1), (1, ()), (2, ()))),
                                  Block([], left, Jump((3, ()))), Block([], right, Jump((3, ()))),
                                  Block([], last, Back(back)), n1=TRUTH)})

    def test_where_ways_meet(self):
        # What stands on one way, or on both, doesn't stand on each way through one block.
        self.stays(self.meeting([], [neg(3, n(0))], [], [neg(5, n(0))], n(5)))
        self.stays(self.meeting([], [neg(3, n(0))], [neg(4, n(0))], [neg(5, n(0))], n(5)))
        self.becomes(self.meeting([neg(2, n(0))], [neg(3, n(0))], [neg(4, n(0))], [neg(5, n(0))], n(5)),
                     self.meeting([neg(2, n(0))], [], [], [], n(2)))
        self.becomes(self.meeting([neg(2, n(0))], [], [], [neg(5, n(0))], n(5)),
                     self.meeting([neg(2, n(0))], [], [], [], n(2)))
        # The row behind the meeting is like the one ahead of the ways, also where other ones of them stood between.
        self.becomes(self.meeting([neg(2, n(0))], [add(3, n(0), n(0))], [add(4, n(0), n(0))],
                                  [add(5, n(0), n(0)), neg(6, n(0))], n(6)),
                     self.meeting([neg(2, n(0))], [add(3, n(0), n(0))], [add(4, n(0), n(0))], [add(5, n(0), n(0))],
                                  n(2)))

    def test_ways_within_one_side(self):
        # Block 1 rules 3 and 4, and not 2; rows of 1 and of 2 are like, and those beneath go each to its own.
        def code(one, two, three, four, backs):
            return Code({"main": made([NUM, TRUTH], NUM, Block([0, 1], [], Branch(n(1), (1, ()), (2, ()))),
                                      Block([], one, Branch(n(1), (3, ()), (4, ()))), Block([], two, Jump((5, ()))),
                                      Block([], three, Back(backs[0])), Block([], four, Back(backs[1])),
                                      Block([], [noted(backs[2])], Back(num(1))), n1=TRUTH)})
        ahead = code([neg(10, n(0))], [neg(9, n(0))], [neg(8, n(0))], [neg(7, n(0))], [n(8), n(7), n(9)])
        self.becomes(ahead, code([neg(10, n(0))], [neg(9, n(0))], [], [], [n(10), n(10), n(9)]))
        ahead = code([neg(10, n(0))], [], [neg(8, n(0))], [neg(7, n(0)), neg(6, n(0))], [n(8), n(6), num(0)])
        self.becomes(ahead, code([neg(10, n(0))], [], [], [], [n(10), n(10), num(0)]))
        self.stays(code([], [neg(9, n(0))], [neg(8, n(0))], [neg(7, n(0))], [n(8), n(7), n(9)]))

    def test_numbers_of_blocks_do_not_matter(self):
        # One comes 0, 3, 1, 2: so the row that stays is that of 3.
        def code(three, one, two, backs):
            return Code({"main": made([NUM], NUM, Block([0], [], Jump((3, ()))), Block([], one, Jump((2, ()))),
                                      Block([], two, Back(backs)), Block([], three, Jump((1, ()))))})
        self.becomes(code([neg(5, n(0))], [neg(3, n(0))], [neg(4, n(0))], n(4)), code([neg(5, n(0))], [], [], n(5)))

    def test_ends_edges_and_logs(self):
        def code(rows, one, yes, row):
            return Code({
                "main": made([NUM], NUM, Block([0], [Row(1, "neg", None, [n(0)]), Row(2, "not", None, [YES]),
                                                     Row(3, "make", WIDE, [n(0), n(0)]), *rows],
                                               Branch(yes, (1, (one, yes)), (2, ()))),
                             Block([7, 8], [noted(one), noted(yes)], Risk("pick", None, [row, one], (3, (one,)),
                                                                          [("range", (4, (one,)))])),
                             Block([], [], Risk("call", "main", [one], (4, ()), [("a", (4, (one,)))])),
                             Block([9, 10], [Row(11, "put", 1, [row, one])], Back(one)), Block([12], [], Back(n(12))),
                             n2=TRUTH, n3=WIDE, n5=TRUTH, n6=WIDE, n8=TRUTH, n11=WIDE)})
        rows = [Row(4, "neg", None, [n(0)]), Row(5, "not", None, [YES]), Row(6, "make", WIDE, [n(0), n(0)])]
        self.becomes(code(rows, n(4), n(5), n(6)), code([], n(1), n(2), n(3)))

    def test_params_are_their_own_images(self):
        # Whatever is handed to them: here it is the same.
        self.stays(Code({"main": made([NUM], NUM, Block([0], [], Jump((1, (n(0), n(0))))),
                                      Block([1, 2], [neg(3, n(1)), neg(4, n(2)), neg(5, n(0))], Back(n(3))))}))

    def test_results_are_their_own_images(self):
        code = Code({"main": made([NUM], NUM, Block([0], [], Risk("mul", None, [n(0), n(0)], (1, ()), [])),
                                  Block([1], [], Risk("mul", None, [n(0), n(0)], (2, ()), [])),
                                  Block([2], [add(3, n(1), n(2)), add(4, n(2), n(1))], Back(n(3))))})
        self.stays(code)


class Loops(Like):
    def loop(self, entry, first, second, third, again, backs):
        return Code({"main": made([NUM, TRUTH], NUM, Block([0, 1], first, Jump((1, (entry,)))),
                                  Block([2], [TICK] + second, Branch(n(1), (2, ()), (3, ()))),
                                  Block([], third, Jump((1, (again,)))), Block([], [], Back(backs)), n1=TRUTH)})

    def test_rows_of_the_loop_like_those_ahead_of_it(self):
        self.becomes(self.loop(n(0), [neg(3, n(0))], [neg(4, n(0))], [neg(5, n(0))], n(5), n(4)),
                     self.loop(n(0), [neg(3, n(0))], [], [], n(3), n(3)))

    def test_round_the_loop(self):
        # 3 is handed on, and 5 is made of what comes back; so 5 isn't like 3, but it is like 4.
        self.stays(self.loop(n(0), [], [neg(4, n(2))], [neg(5, n(4))], n(5), n(4)))
        self.becomes(self.loop(n(0), [neg(3, n(0))], [neg(4, n(2))], [neg(5, n(2)), add(6, n(5), n(3))], n(6), n(4)),
                     self.loop(n(0), [neg(3, n(0))], [neg(4, n(2))], [add(6, n(4), n(3))], n(6), n(4)))
        # The loop's end doesn't rule its head.
        self.stays(self.loop(n(0), [], [], [neg(5, n(0))], n(5), n(2)))

    def test_a_row_below_that_is_like_one_that_comes_round(self):
        ahead = Code({"main": made([NUM, TRUTH], NUM, Block([0, 1], [], Jump((1, (n(0),)))),
                                   Block([2], [TICK, add(3, n(2), num(1)), noted(n(3))],
                                         Branch(n(1), (1, (n(3),)), (2, ()))),
                                   Block([], [add(4, n(2), num(1))], Back(n(4))), n1=TRUTH)})
        behind = Code({"main": made([NUM, TRUTH], NUM, Block([0, 1], [], Jump((1, (n(0),)))),
                                    Block([2], [TICK, add(3, n(2), num(1)), noted(n(3))],
                                          Branch(n(1), (1, (n(3),)), (2, ()))),
                                    Block([], [], Back(n(3))), n1=TRUTH)})
        self.becomes(ahead, behind)
        for inputs in [[0, False], [3, True]]:
            self.runs_alike(ahead, behind, inputs, range(5))

    def test_unlike_names_round_a_loop(self):
        # Both begin alike and go on alike; but they are params, so nothing is known of them.
        code = Code({"main": made([NUM, TRUTH], NUM, Block([0, 1], [], Jump((1, (n(0), n(0))))),
                                  Block([2, 3], [TICK, add(4, n(2), num(1)), add(5, n(3), num(1))],
                                        Branch(n(1), (1, (n(4), n(5))), (2, ()))),
                                  Block([], [], Back(n(2))), n1=TRUTH)})
        self.stays(code)

    def test_great_functions(self):
        # Many blocks that don't rule each other, each with a row like those of all others, and one beneath it.
        count = 1600
        blocks = [Block([0, 1], [], Jump((1, ())))]
        for number in range(count):
            following = 3 * number + 4 if number < count - 1 else 3 * count + 1
            blocks.append(Block([], [], Branch(n(1), (3 * number + 2, ()), (following, ()))))
            blocks.append(Block([], [neg(2 * number + 2, n(0))], Jump((3 * number + 3, ()))))
            blocks.append(Block([], [neg(2 * number + 3, n(0))], Back(n(2 * number + 3))))
        blocks.append(Block([], [], Raise("oops")))
        ahead = Code({"main": made([NUM, TRUTH], NUM, *blocks, n1=TRUTH)})
        behind, paper = Likes().tried(ahead)
        self.assertEqual(sorted(behind.functions["main"].kinds), [0, 1] + [2 * number + 2 for number in range(count)])
        self.assertTrue(Likes().holds(ahead, behind, paper))
        rows = [neg(place + 1, n(place)) for place in range(3000)]
        more = [neg(place + 5001, n(place + 5000 if place else 0)) for place in range(3000)]
        ahead = single(rows + more, Back(n(8000)), [NUM])
        behind, paper = Likes().tried(ahead)
        self.assertEqual(behind.told(), single(rows, Back(n(3000)), [NUM]).told())
        self.assertTrue(Likes().holds(ahead, behind, paper))


class ByChance(Like):
    def test_of_programs(self):
        self.assertGreater(self.changes_of_sown(700), 150)

    def test_of_drawn_codes(self):
        self.assertGreater(self.changes_of_drawn(700), 400)


if __name__ == "__main__":
    unittest.main()
