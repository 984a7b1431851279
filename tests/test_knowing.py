"""Points 4, 6, 58, 83 and 84: known ends."""

import unittest

from eachstepsame.blocks import Back, Block, Branch, Code, Jump, Raise, Risk, Row
from eachstepsame.errors import Fault
from eachstepsame.knowing import Known
from eachstepsame.ops import reckoned
from eachstepsame.walk import REASONS
from tests.helper import (
    NO, NUM, TICK, TRUTH, WIDE, YES, Tried, made, n, noted, num, sample_code, settled, shown, shut, single,
)

GREAT = num(10 ** 30)


def known(end):
    """A second reading of 83, of an end that is told as a tuple; the same end where it isn't known."""
    if end[0] == "branch" and end[1][0] != "name":
        return ("jump", end[2] if end[1][1] else end[3])
    if end[0] != "risk" or end[1] == "call" or any(operand[0] == "name" for operand in end[3]):
        return end
    try:
        result = num(reckoned(end[1], end[2], [operand[1] for operand in end[3]]))
    except Fault as fault:
        caught = dict(end[5])
        return ("jump", caught[fault.name]) if fault.name in caught else ("raise", fault.name)
    return ("jump", (end[4][0], (result,) + end[4][1]))


def ended(told):
    """What a function tells behind, and its sheet, or None where no end is known."""
    blocks = [block[:2] + (known(block[2]),) for block in told[3]]
    if blocks == list(told[3]):
        return None
    behind, numbers = shut(told[:3] + (tuple(blocks),))
    return behind, (numbers, {name: n(name) for name, kind in behind[2]})


class Ends(Tried):
    rewriting, without = Known, tuple(reason for reason in REASONS if reason != "known")

    def wanted(self, function):
        return ended(function.told())


class Branches(Ends):
    def code(self, end, *blocks):
        return Code({"main": made([NUM, TRUTH], NUM, Block([0, 1], [noted(n(0)), TICK], end), *blocks, n1=TRUTH)})

    def test_title(self):
        self.assertEqual(Known().known_as(), "known")

    def test_both_truths(self):
        yes, no = Block([2], [], Back(n(2))), Block([3], [noted(n(3))], Back(num(2)))
        for test, left, handed in [(YES, yes, num(5)), (NO, no, n(0))]:
            self.becomes(self.code(Branch(test, (1, (num(5),)), (2, (n(0),))), yes, no),
                         self.code(Jump((1, (handed,))), left))
            # The other way round; so it's the truth that tells, and not the number of the block.
            self.becomes(self.code(Branch(test, (2, (n(0),)), (1, (num(5),))), yes, no),
                         self.code(Jump((1, (n(0) if test == YES else num(5),))), no if test == YES else yes))

    def test_both_to_one_block(self):
        block = Block([2], [], Back(n(2)))
        for test, handed in [(YES, n(0)), (NO, num(6))]:
            self.becomes(self.code(Branch(test, (1, (n(0),)), (1, (num(6),))), block),
                         self.code(Jump((1, (handed,))), block))

    def test_tests_that_are_names(self):
        self.stays(self.code(Branch(n(1), (1, ()), (2, ())), Block([], [], Back(num(1))), Block([], [], Back(num(2)))))
        # What the row gives could be reckoned, but that is for folding.
        self.stays(single([Row(0, "not", None, [YES])], Back(n(0)), (), TRUTH, n0=TRUTH))
        self.stays(Code({"main": made([], NUM, Block([], [Row(0, "not", None, [YES])], Branch(n(0), (1, ()), (1, ()))),
                                      Block([], [], Back(num(1))), n0=TRUTH)}))
        # A param to which one truth alone is handed is a name as well.
        self.stays(Code({"main": made([], NUM, Block([], [], Jump((1, (YES,)))), Block([0], [], Branch(n(0), (2, ()),
                                                                                                      (2, ()))),
                                      Block([], [], Back(num(1))), n0=TRUTH)}))

    def test_other_ends_stay(self):
        self.stays(single([], Back(num(1))))
        self.stays(single([], Back(YES), (), TRUTH))
        self.stays(single([], Raise("zero")))
        self.stays(Code({"main": made([], NUM, Block([], [], Jump((1, (num(1), YES)))), Block([0, 1], [], Back(n(0))),
                                      n1=TRUTH)}))
        self.stays(sample_code())

    def test_rows_and_other_ends_of_the_way_stay(self):
        rows = [noted(n(2)), TICK, Row(4, "copy", None, [n(2)]), Row(5, "add", None, [num(1), num(1)])]
        left = [Block([2], rows, Jump((2, (n(5),)))), Block([6], [TICK], Branch(n(1), (2, (n(6),)), (3, ())))]
        last = Block([], [], Back(n(2)))
        self.becomes(self.code(Branch(YES, (1, (n(0),)), (4, ())), *left, last, Block([], [], Raise("oops"))),
                     self.code(Jump((1, (n(0),))), *left, last))


class Risks(Ends):
    WELL = [("mul", num(6), num(-7), num(-42)), ("div", num(-7), num(2), num(-4)), ("mod", num(-7), num(2), num(1)),
            ("mul", GREAT, num(0), num(0)), ("mul", num(10 ** 25), num(10 ** 24), num(10 ** 49)),
            ("div", num(0), num(5), num(0)), ("mod", num(7), num(-2), num(-1))]
    AMISS = [("mul", GREAT, GREAT, "great"), ("div", num(1), num(0), "zero"), ("mod", num(0), num(0), "zero"),
             ("mul", num(10 ** 25), num(10 ** 25), "great")]

    def code(self, end, *blocks):
        return Code({"main": made([NUM], NUM, Block([0], [], end), *blocks)})

    def test_done_well(self):
        done = Block([1, 2], [noted(n(2))], Back(n(1)))
        caught = Block([3], [], Back(n(3)))
        for op, one, other, result in self.WELL:
            for catches in [[], [("zero", (2, (num(8),)))], [("great", (2, (num(8),))), ("zero", (2, (n(0),)))]]:
                blocks = [done, caught] if catches else [done]
                self.becomes(self.code(Risk(op, None, [one, other], (1, (n(0),)), catches), *blocks),
                             self.code(Jump((1, (result, n(0)))), done))

    def test_done_well_without_args(self):
        done = Block([1], [], Back(n(1)))
        for op, one, other, result in self.WELL:
            self.becomes(self.code(Risk(op, None, [one, other], (1, ()), []), done),
                         self.code(Jump((1, (result,))), done))

    def test_faults_that_are_caught(self):
        done, caught = Block([1, 2], [], Back(n(1))), Block([3], [noted(n(3))], Back(num(9)))
        for op, one, other, fault in self.AMISS:
            more = Block([], [], Raise("more"))
            self.becomes(self.code(Risk(op, None, [one, other], (1, (n(0),)), [(fault, (2, (n(0),)))]), done, caught),
                         self.code(Jump((1, (n(0),))), caught))
            self.becomes(self.code(Risk(op, None, [one, other], (1, (n(0),)),
                                        [("oops", (3, ())), (fault, (2, (num(4),))), ("end", (3, ()))]),
                                   done, caught, more), self.code(Jump((1, (num(4),))), caught))

    def test_faults_that_are_not_caught(self):
        done, caught = Block([1], [], Back(n(1))), Block([], [], Back(num(9)))
        for op, one, other, fault in self.AMISS:
            self.becomes(self.code(Risk(op, None, [one, other], (1, ()), []), done), self.code(Raise(fault)))
            others = [text for text in ["great", "zero", "range", "oops"] if text != fault]
            catches = [(text, (2, ())) for text in others]
            self.becomes(self.code(Risk(op, None, [one, other], (1, ()), catches), done, caught),
                         self.code(Raise(fault)))

    def test_both_ways_to_one_block(self):
        # The result is one arg more than the catch hands on; behind there are but args.
        meeting = Block([1, 2], [], Back(n(1)))
        self.becomes(self.code(Risk("div", None, [num(9), num(4)], (1, (n(0),)), [("zero", (1, (num(0), n(0))))]),
                               meeting), self.code(Jump((1, (num(2), n(0)))), meeting))
        self.becomes(self.code(Risk("div", None, [num(9), num(0)], (1, (n(0),)), [("zero", (1, (num(7), n(0))))]),
                               meeting), self.code(Jump((1, (num(7), n(0)))), meeting))

    def test_some_operand_is_a_name(self):
        done = Block([1], [], Back(n(1)))
        for op in ["mul", "div", "mod"]:
            for asked in [[n(0), n(0)], [n(0), num(0)], [num(0), n(0)], [n(0), num(1)]]:
                self.stays(self.code(Risk(op, None, asked, (1, ()), []), done))

    def test_rows_are_no_constants(self):
        for op, asked, result in [("pick", [n(0), num(9)], NUM), ("pick", [n(0), num(0)], NUM),
                                  ("lay", [n(0), num(9), num(1)], WIDE), ("lay", [n(0), num(0), num(1)], WIDE)]:
            self.stays(Code({"main": made([], NUM, Block([], [Row(0, "make", WIDE, [num(1), num(2)])],
                                                         Risk(op, None, asked, (1, ()), [("range", (2, ()))])),
                                          Block([1], [], Back(num(1))), Block([], [], Back(num(2))), n0=WIDE,
                                          n1=result)}))

    def test_calls_are_never_known(self):
        done = Block([1], [], Back(n(1)))
        self.stays(self.code(Risk("call", "main", [num(1)], (1, ()), [("zero", (1, (num(2),)))]), done))
        empty = made([], NUM, Block([], [], Back(num(1))))
        self.stays(self.code(Risk("call", "f", [], (1, ()), []), done).with_function("f", empty))
        # Not even of a function that is called like an operation.
        product = made([NUM, NUM], NUM, Block([0, 1], [], Back(n(0))))
        for text in ["mul", "div", "mod"]:
            code = self.code(Risk("call", text, [num(1), num(0)], (1, ()), []), done).with_function(text, product)
            self.stays(code)


class ClosedUp(Ends):
    def test_others_are_numbered_anew(self):
        # 0 leads to 4 and 2, 4 to 5 and 3; without 2, which alone leads to 1, there are 3, 4 and 5.
        def code(first, numbers, blocks):
            ways = [(numbers[5], (n(0),)), (numbers[3], ())]
            some = {1: Block([], [Row(11, "neg", None, [n(0)])], Back(n(11))),
                    2: Block([12], [], Branch(YES, (1, ()), (1, ()))),
                    3: Block([], [Row(13, "neg", None, [n(10)])], Jump((numbers[5], (n(13),)))),
                    4: Block([], [Row(14, "less", None, [n(10), num(0)])], Branch(n(14), *ways)),
                    5: Block([15], [noted(n(15))], Back(n(15)))}
            return Code({"main": made([NUM], NUM, Block([0], [Row(10, "add", None, [n(0), num(1)])], first),
                                      *[some[number] for number in blocks], n14=TRUTH)})
        same = {number: number for number in range(6)}
        ahead = code(Branch(NO, (2, (num(1),)), (4, ())), same, [1, 2, 3, 4, 5])
        behind = code(Jump((2, ())), {3: 1, 4: 2, 5: 3}, [3, 4, 5])
        self.becomes(ahead, behind)
        paper = Known().tried(ahead)[1]
        names = {name: n(name) for name in [0, 10, 13, 14, 15]}
        self.assertEqual(settled(paper["main"]), settled(({0: 0, 3: 1, 4: 2, 5: 3}, names)))
        self.assertEqual(behind.functions["main"].kinds, {0: NUM, 10: NUM, 13: NUM, 14: TRUTH, 15: NUM})

    def test_known_ends_that_nobody_comes_to(self):
        # The end of block 1 is known too, but it is left out with its block.
        ahead = Code({"main": made([], NUM, Block([], [], Branch(NO, (1, ()), (2, ()))),
                                   Block([], [], Branch(YES, (2, ()), (2, ()))), Block([], [], Back(num(1))))})
        self.becomes(ahead, Code({"main": made([], NUM, Block([], [], Jump((1, ()))), Block([], [], Back(num(1))))}))

    def test_several_at_once(self):
        ahead = Code({"main": made([NUM], NUM, Block([0], [], Branch(YES, (1, ()), (4, (num(0),)))),
                                   Block([], [], Risk("mul", None, [num(3), num(4)], (2, (n(0),)), [])),
                                   Block([1, 2], [], Risk("mod", None, [num(3), num(0)], (4, ()), [("zero", (3, ()))])),
                                   Block([], [], Branch(NO, (5, ()), (6, ()))), Block([3], [], Back(num(4))),
                                   Block([], [], Back(num(5))), Block([], [], Back(n(1))))})
        wanted = Code({"main": made([NUM], NUM, Block([0], [], Jump((1, ()))),
                                    Block([], [], Jump((2, (num(12), n(0))))), Block([1, 2], [], Jump((3, ()))),
                                    Block([], [], Jump((4, ()))), Block([], [], Back(n(1))))})
        self.becomes(ahead, wanted)

    def test_params_of_a_block_that_lost_an_edge(self):
        def code(first, middle):
            return Code({"main": made([NUM], NUM, Block([0], [], first), *middle,
                                      Block([1], [noted(n(1))], Back(n(1))))})
        other = Block([], [], Jump((2, (num(7),))))
        self.becomes(code(Branch(NO, (1, ()), (2, (n(0),))), [other]), code(Jump((1, (n(0),))), []))
        # The one that was handed a result stays, and is handed the constant.
        self.becomes(Code({"main": made([NUM], NUM, Block([0], [], Risk("mul", None, [num(2), num(3)], (1, ()), [])),
                                        Block([1], [noted(n(1))], Back(n(1))))}),
                     Code({"main": made([NUM], NUM, Block([0], [], Jump((1, (num(6),)))),
                                        Block([1], [noted(n(1))], Back(n(1))))}))

    def test_a_loop_that_is_never_left_or_never_gone_through(self):
        def code(end, *more):
            return Code({"main": made([NUM], NUM, Block([0], [], Jump((1, (n(0),)))),
                                      Block([1], [TICK, noted(n(1)), Row(2, "add", None, [n(1), num(1)])], end),
                                      *more)})
        last = Block([], [], Back(n(1)))
        forever = code(Branch(YES, (1, (n(2),)), (2, ())), last)
        self.becomes(forever, code(Jump((1, (n(2),)))))
        self.runs_alike(forever, code(Jump((1, (n(2),)))), [5], range(6))
        self.becomes(code(Branch(NO, (1, (n(2),)), (2, ())), last), code(Jump((2, ())), last))

    def test_names_that_only_rule_by_the_known_way(self):
        # The join reads what block 0 gives; the block that was beside the way is gone with its names.
        ahead = Code({"main": made([NUM], NUM, Block([0], [], Branch(YES, (2, ()), (1, ()))),
                                   Block([], [Row(1, "neg", None, [n(0)])], Jump((3, (n(1),)))),
                                   Block([], [Row(2, "add", None, [n(0), n(0)])], Jump((3, (n(2),)))),
                                   Block([3], [], Back(n(3))))})
        self.becomes(ahead, Code({"main": made([NUM], NUM, Block([0], [], Jump((1, ()))),
                                               Block([], [Row(2, "add", None, [n(0), n(0)])], Jump((2, (n(2),)))),
                                               Block([3], [], Back(n(3))))}))

    def test_great_functions(self):
        count = 2400
        # Block 2k + 2 goes on; block 2k + 1 is left out.
        blocks = [Block([0], [], Branch(YES, (2, ()), (1, ())))]
        for number in range(1, count):
            ways = [(2 * number + 2, ()), (2 * number + 1, ())]
            blocks.append(Block([], [], Raise("oops")))
            blocks.append(Block([], [], Branch(YES, *ways) if number % 2 else Branch(NO, *ways[::-1])))
        blocks += [Block([], [], Raise("oops")), Block([], [], Back(n(0)))]
        ahead = Code({"main": made([NUM], NUM, *blocks)})
        behind, paper = Known().tried(ahead)
        self.assertEqual(len(behind.functions["main"].blocks), count + 1)
        self.assertEqual(shown(paper["main"][0]), shown({2 * number: number for number in range(count + 1)}))
        self.assertTrue(Known().holds(ahead, behind, paper))


class ByChance(Ends):
    def test_of_programs(self):
        self.assertGreater(self.changes_of_sown(600), 200)

    def test_of_drawn_codes(self):
        self.assertGreater(self.changes_of_drawn(700), 350)


if __name__ == "__main__":
    unittest.main()
