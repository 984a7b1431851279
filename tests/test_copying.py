"""Points 4, 6, 82 and 84: copies."""

import unittest
from random import Random

from eachstepsame.blocks import Back, Block, Branch, Code, Jump, Raise, Risk, Row
from eachstepsame.copying import Copies
from tests.helper import (
    FLAG, NO, NUM, TICK, TRUTH, WIDE, YES, Drawer, Tried, all_handed, cut, made, n, neg, noted, num, shown, single,
)


def can_go(told):
    """The names of rows and params that can be left out now, with the operands that stand where they stood."""
    found = {row[0]: row[3][0] for params, rows, end in told[3] for row in rows if row[1] == "copy"}
    for name, operands in all_handed(told).items():
        others = set(operands) - {n(name)}
        if None not in operands and len(others) == 1:
            found[name] = others.pop()
    return found


def gone_one_by_one(told, seed):
    """A second reading of 82: one name is left out, then another one, in an order by chance."""
    chance, images = Random(seed), {name: n(name) for name, kind in told[2]}
    partners = {number: number for number in range(len(told[3]))}
    ahead = told
    while can_go(told):
        some = can_go(told)
        name = chance.choice(sorted(some))
        told = cut(told, [name], {name: some[name]})
        images = {one: some[name] if operand == n(name) else operand for one, operand in images.items()}
    return None if told == ahead else (told, (partners, images))


class CopiesOf(Tried):
    rewriting, without = Copies, ("moved", "plain", "known")

    def wanted(self, function):
        return gone_one_by_one(function.told(), 1)


def copy(name, operand):
    return Row(name, "copy", None, [operand])


class Rows(CopiesOf):
    def test_title(self):
        self.assertEqual(Copies().known_as(), "copies")

    def test_of_every_kind(self):
        for kind in [NUM, TRUTH, WIDE, FLAG]:
            self.becomes(single([copy(1, n(0))], Back(n(1)), [kind], kind, n0=kind, n1=kind),
                         single([], Back(n(0)), [kind], kind, n0=kind))
        for operand in [num(0), num(7), num(-1), num(10 ** 60), YES, NO]:
            kind = (operand[0],)
            self.becomes(single([copy(1, operand), noted(n(1))], Back(n(1)), [NUM], kind, n1=kind),
                         single([noted(operand)], Back(operand), [NUM], kind))

    def test_number_and_truth_stay_apart(self):
        self.becomes(single([copy(0, num(1)), copy(1, YES), noted(n(0)), noted(n(1))], Back(n(0)), (), n1=TRUTH),
                     single([noted(num(1)), noted(YES)], Back(num(1))))

    def test_copies_of_copies(self):
        rows = [copy(1, n(0)), copy(2, n(1)), copy(3, n(1)), copy(4, n(3)), Row(5, "add", None, [n(2), n(4)])]
        self.becomes(single(rows + [noted(n(4)), copy(6, n(5)), copy(7, num(3)), copy(8, n(7)), noted(n(8))],
                            Back(n(6)), [NUM]),
                     single([Row(5, "add", None, [n(0), n(0)]), noted(n(0)), noted(num(3))], Back(n(5)), [NUM]))

    def test_nobody_reads_it(self):
        self.becomes(single([copy(1, n(0))], Back(num(1)), [NUM]), single([], Back(num(1)), [NUM]))

    def test_other_rows_stay(self):
        self.stays(single([Row(1, "add", None, [n(0), num(0)]), Row(2, "neg", None, [num(1)]), noted(n(2)), TICK],
                          Back(n(1)), [NUM]))
        self.stays(single([Row(1, "and", None, [n(0), YES])], Back(n(1)), [TRUTH], TRUTH, n0=TRUTH, n1=TRUTH))
        self.stays(single([Row(0, "make", WIDE, [num(1), num(1)]), Row(1, "put", 0, [n(0), num(1)])], Back(n(1)), (),
                          WIDE, n0=WIDE, n1=WIDE))

    def test_ends_edges_and_logs(self):
        def code(rows, one, yes, row):
            return Code({
                "main": made([NUM, TRUTH, WIDE], NUM, Block([0, 1, 2], rows, Branch(yes, (1, (one, yes)), (2, ()))),
                             Block([6, 7], [noted(one), noted(yes)], Risk("pick", None, [row, one], (3, (one,)),
                                                                          [("range", (4, (one,)))])),
                             Block([], [], Risk("call", "main", [one, yes, row], (4, ()), [("a", (4, (num(8),))),
                                                                                         ("b", (5, ()))])),
                             Block([8, 9], [Row(10, "put", 1, [row, one])], Back(n(9))), Block([11], [], Back(n(11))),
                             Block([], [], Jump((6, (row,)))), Block([12], [], Back(one)),
                             n1=TRUTH, n2=WIDE, n4=TRUTH, n5=WIDE, n7=TRUTH, n10=WIDE, n12=WIDE)})

        def behind():
            return Code({
                "main": made([NUM, TRUTH, WIDE], NUM, Block([0, 1, 2], [], Branch(n(1), (1, ()), (2, ()))),
                             Block([], [noted(n(0)), noted(n(1))], Risk("pick", None, [n(2), n(0)], (3, ()),
                                                                        [("range", (4, (n(0),)))])),
                             Block([], [], Risk("call", "main", [n(0), n(1), n(2)], (4, ()), [("a", (4, (num(8),))),
                                                                                            ("b", (5, ()))])),
                             Block([8], [Row(10, "put", 1, [n(2), n(0)])], Back(n(0))), Block([11], [], Back(n(11))),
                             Block([], [], Jump((6, ()))), Block([], [], Back(n(0))),
                             n1=TRUTH, n2=WIDE, n10=WIDE)})
        self.becomes(code([copy(3, n(0)), copy(4, n(1)), copy(5, n(2))], n(3), n(4), n(5)), behind())
        # Params alone go as well, where there is no row that copies.
        self.becomes(code([], n(0), n(1), n(2)), behind())

    def test_across_blocks_and_on_a_round(self):
        def code(first, second, test, more):
            return Code({"main": made([NUM], NUM, Block([0], first, Jump((1, (n(0),)))),
                                      Block([2], [TICK] + second + [Row(4, "less", None, test)],
                                            Branch(n(4), (2, ()), (3, ()))),
                                      Block([], [Row(5, "add", None, more)], Jump((1, (n(5),)))),
                                      Block([], [], Back(test[0])), n4=TRUTH)})
        self.becomes(code([copy(1, num(9))], [copy(3, n(2))], [n(3), n(1)], [n(3), num(1)]),
                     code([], [], [n(2), num(9)], [n(2), num(1)]))


class Params(CopiesOf):
    def meeting(self, one, other, param, read=None, back=None):
        """Two ways on which each hand an operand to the block where they meet."""
        left, right = ((one,), (other,)) if param is not None else ((), ())
        return Code({"main": made([NUM, NUM, TRUTH], NUM, Block([0, 1, 2], [], Branch(n(2), (1, ()), (2, ()))),
                                  Block([], [], Jump((3, left))), Block([], [], Jump((3, right))),
                                  Block([] if param is None else [param], [noted(read or n(param))],
                                        Back(back or n(param))), n2=TRUTH)})

    def test_one_and_the_same(self):
        for operand in [n(0), n(1), num(4), num(0)]:
            self.becomes(self.meeting(operand, operand, 5), self.meeting(None, None, None, operand, operand))

    def test_args_that_differ(self):
        for one, other in [(n(0), n(1)), (n(1), n(0)), (num(0), num(1)), (n(0), num(0)), (num(1), n(1))]:
            self.stays(self.meeting(one, other, 5))

    def test_both_sides_of_one_branch(self):
        def code(yes, no, params, back):
            return Code({"main": made([NUM, TRUTH], NUM, Block([0, 1], [], Branch(n(1), (1, yes), (1, no))),
                                      Block(params, [], Back(back)), n1=TRUTH)})
        self.becomes(code((n(0),), (n(0),), [2], n(2)), code((), (), [], n(0)))
        self.stays(code((n(0),), (num(0),), [2], n(2)))
        # Of several params those that differ stay, in their order.
        self.becomes(code((n(0), num(1), num(7), num(3)), (n(0), num(2), num(7), num(4)), [2, 3, 4, 5], n(4)),
                     code((num(1), num(3)), (num(2), num(4)), [3, 5], num(7)))

    def test_truths_and_rows(self):
        def code(args, params, row, test):
            return Code({"main": made([WIDE], NUM, Block([0], [], Jump((1, args))),
                                      Block(params, [Row(3, "get", 0, [row])], Branch(test, (2, ()), (3, ()))),
                                      Block([], [], Back(n(3))), Block([], [], Raise("no")), n0=WIDE, n1=WIDE,
                                      n2=TRUTH)})
        self.becomes(code((n(0), YES), [1, 2], n(1), n(2)), code((), [], n(0), YES))

    def test_three_edges_of_which_the_last_differs(self):
        def code(last):
            return Code({"main": made([NUM, TRUTH], NUM, Block([0, 1], [], Branch(n(1), (3, (n(0),)), (1, ()))),
                                      Block([], [], Branch(n(1), (3, (n(0),)), (2, ()))),
                                      Block([], [], Jump((3, (last,)))), Block([4], [], Back(n(4))), n1=TRUTH)})
        self.stays(code(num(1)))
        self.assertEqual(self.comes(code(n(0))).functions["main"].blocks[3].told(), ((), (), ("back", n(0))))

    def test_the_first_blocks_params_stay(self):
        self.stays(single([], Back(n(0)), [NUM]))
        self.stays(Code({"main": made([NUM, NUM], NUM, Block([0, 1], [], Risk("call", "main", [n(0), n(0)], (1, ()),
                                                                               [])),
                                      Block([2], [], Back(n(2))))}))

    def test_what_rows_give(self):
        self.becomes(Code({"main": made([NUM], NUM, Block([0], [neg(1, n(0))], Jump((1, (n(1),)))),
                                        Block([2], [neg(3, n(2))], Jump((2, (n(3), n(2))))),
                                        Block([4, 5], [noted(n(4))], Back(n(5))))}),
                     Code({"main": made([NUM], NUM, Block([0], [neg(1, n(0))], Jump((1, ()))),
                                        Block([], [neg(3, n(1))], Jump((2, ()))),
                                        Block([], [noted(n(3))], Back(n(1))))}))


class Results(CopiesOf):
    """The first param of a block to which some edge hands a result."""

    def code(self, op, first, second, params, read):
        asked = [n(0), n(1)]
        end = Risk("call", "main", asked, (1, second), [("a", (1, (n(0),) + second)), ("zero", (1, first + second))])
        if op != "call":
            end = Risk(op, None, asked, (1, second), [("zero", (1, first + second))])
        return Code({"main": made([NUM, NUM], NUM, Block([0, 1], [], end), Block(params, [], Back(read)))})

    def test_it_stays(self):
        for op in ["mul", "div", "mod", "call"]:
            for first in [n(0), num(1)]:
                self.stays(self.code(op, (first,), (), [2], n(2)))
        self.stays(Code({"main": made([NUM], NUM, Block([0], [], Risk("div", None, [n(0), n(0)], (1, ()), [])),
                                      Block([2], [], Back(n(2))))}))

    def test_the_others_go(self):
        for op in ["mul", "div", "mod", "call"]:
            self.becomes(self.code(op, (num(1),), (n(0), num(7)), [2, 3, 4], n(3)),
                         self.code(op, (num(1),), (), [2], n(0)))
            self.becomes(self.code(op, (n(0),), (num(7), n(0)), [2, 3, 4], n(3)),
                         self.code(op, (n(0),), (), [2], num(7)))

    def test_args_behind_the_result_that_differ(self):
        # What stands in one place of the args is handed to unlike params where a result stands ahead.
        def code(well, caught, params, read):
            end = Risk("div", None, [n(0), n(1)], (1, well), [("zero", (1, caught))])
            return Code({"main": made([NUM, NUM], NUM, Block([0, 1], [], end), Block(params, [], Back(read)))})
        self.becomes(code((n(1), n(0)), (n(1), n(1), n(0)), [2, 3, 4], n(4)), code((), (n(1),), [2], n(0)))
        self.stays(code((n(0), n(1)), (n(0), n(1), n(0)), [2, 3, 4], n(4)))

    def test_among_edges_of_other_ends(self):
        def code(yes, no, handed, params, read):
            return Code({"main": made([NUM, TRUTH], NUM, Block([0, 1], [], Branch(n(1), (1, yes), (2, no))),
                                      Block([], [], Risk("mul", None, [n(0), n(0)], (2, handed), [])),
                                      Block(params, [], Back(read)), n1=TRUTH)})
        self.stays(code((), (n(0),), (), [3], n(3)))
        self.becomes(code((), (n(0), n(0)), (n(0),), [3, 4], n(4)), code((), (n(0),), (), [3], n(0)))


class Loops(CopiesOf):
    def loop(self, entry, again, params, read, rows=(), more=()):
        """Block 1 is the head of a loop, with these params, which are handed entry, and again from block 2."""
        return Code({"main": made([NUM, NUM, TRUTH], NUM, Block([0, 1, 2], [], Jump((1, entry))),
                                  Block(params, [TICK, noted(read[0])], Branch(n(2), (2, ()), (3, ()))),
                                  Block([], rows, Jump((1, again))), Block([], more, Back(read[-1])), n2=TRUTH)})

    def test_its_own_name(self):
        for operand in [n(0), n(1), num(3)]:
            behind = self.loop((), (), [], [operand, operand])
            self.becomes(self.loop((operand,), (n(5),), [5], [n(5), n(5)]), behind)
            self.becomes(self.loop((operand,), (operand,), [5], [n(5), n(5)]), behind)

    def test_its_own_name_and_another_one(self):
        self.stays(self.loop((n(0),), (n(1),), [5], [n(5)]))
        self.stays(self.loop((n(0),), (num(0),), [5], [n(5)]))
        # A third edge hands on what differs from both.
        code = Code({"main": made([NUM, NUM, TRUTH], NUM, Block([0, 1, 2], [], Jump((1, (n(0),)))),
                                  Block([5], [TICK], Branch(n(2), (1, (n(5),)), (2, ()))),
                                  Block([], [], Branch(n(2), (1, (n(1),)), (3, ()))), Block([], [], Back(n(5))),
                                  n2=TRUTH)})
        self.stays(code)

    def test_two_that_hand_each_other_on(self):
        # Neither can be the first one to be left out, also where both begin alike.
        self.stays(self.loop((n(0), n(0)), (n(6), n(5)), [5, 6], [n(5), n(6)]))
        self.stays(self.loop((n(0), n(1)), (n(6), n(5)), [5, 6], [n(5), n(6)]))
        self.stays(self.loop((n(0), n(0), n(0)), (n(6), n(7), n(5)), [5, 6, 7], [n(5), n(6)]))

    def test_one_by_the_other(self):
        self.becomes(self.loop((n(0), n(0)), (n(5), n(5)), [5, 6], [n(5), n(6)]),
                     self.loop((), (), [], [n(0), n(0)]))
        self.becomes(self.loop((n(0), n(0)), (n(6), n(6)), [5, 6], [n(5), n(6)]),
                     self.loop((), (), [], [n(0), n(0)]))
        self.becomes(self.loop((n(0), n(1)), (n(6), n(6)), [5, 6], [n(5), n(6)]),
                     self.loop((n(0),), (n(1),), [5], [n(5), n(1)]))

    def test_a_copy_of_itself(self):
        self.becomes(self.loop((n(0),), (n(8),), [5], [n(5), n(5)], [copy(7, n(5)), copy(8, n(7))]),
                     self.loop((), (), [], [n(0), n(0)]))
        self.becomes(self.loop((n(0),), (n(8),), [5], [n(5), n(5)], [copy(8, n(0))]),
                     self.loop((), (), [], [n(0), n(0)]))
        self.becomes(self.loop((n(0),), (n(8),), [5], [n(5), n(5)], [neg(7, n(5)), copy(8, n(7))]),
                     self.loop((n(0),), (n(7),), [5], [n(5), n(5)], [neg(7, n(5))]))

    def test_the_rows_of_the_loop_stay(self):
        self.becomes(self.loop((n(0),), (n(5),), [5], [n(5), n(5)], [neg(7, n(5)), noted(n(7))], [neg(8, n(5))]),
                     self.loop((), (), [], [n(0), n(0)], [neg(7, n(0)), noted(n(7))], [neg(8, n(0))]))

    def test_a_loop_of_one_block(self):
        def code(entry, again, params, read):
            return Code({"main": made([NUM, TRUTH], NUM, Block([0, 1], [], Jump((1, entry))),
                                      Block(params, [TICK, noted(read)], Branch(n(1), (1, again), (2, ()))),
                                      Block([], [], Back(read)), n1=TRUTH)})
        self.becomes(code((n(0),), (n(3),), [3], n(3)), code((), (), [], n(0)))
        self.becomes(code((n(0), num(1)), (n(3), n(3)), [3, 4], n(4)), code((num(1),), (n(0),), [4], n(4)))

    def test_values_before_a_loop_goes_round_again(self):
        # The outer loop's param changes; the inner one's is the outer one's, whatever that is.
        def code(entry, again, params, read):
            return Code({"main": made([NUM, TRUTH], NUM, Block([0, 1], [], Jump((1, (n(0),)))),
                                      Block([2], [TICK, Row(3, "add", None, [n(2), num(1)])], Jump((2, entry))),
                                      Block(params, [TICK, noted(read), Row(5, "less", None, [read, num(3)])],
                                            Branch(n(5), (1, (n(3),)), (3, ()))),
                                      Block([], [], Branch(n(1), (2, again), (4, ()))), Block([], [], Back(read)),
                                      n1=TRUTH, n5=TRUTH)})
        ahead, behind = code((n(2),), (n(4),), [4], n(4)), code((), (), [], n(2))
        self.becomes(ahead, behind)
        for inputs in [[0, True], [1, False], [7, True]]:
            self.runs_alike(ahead, behind, inputs, range(12))


class AgainAndAgain(CopiesOf):
    def test_blocks_one_behind_the_other(self):
        # Whatever the numbers of the blocks are, each param can go only when the one ahead of it is gone.
        for order in [[1, 2, 3, 4], [4, 3, 2, 1], [2, 4, 1, 3], [3, 1, 4, 2]]:
            def code(args, params, read):
                blocks = {0: Block([0, 1], [], Branch(n(1), (order[0], args[0]), (order[0], args[0])))}
                for place in range(3):
                    ways = [(order[place + 1], args[place + 1][:1]), (order[place + 1], args[place + 1][1:])]
                    blocks[order[place]] = Block(params[place], [], Branch(n(1), *ways))
                blocks[order[3]] = Block(params[3], [noted(read)], Back(read))
                return Code({"main": made([NUM, TRUTH], NUM, *[blocks[number] for number in range(5)], n1=TRUTH)})
            # Each block has one param, to which the param ahead is handed, and what stood for that one.
            ahead = code([(n(0),), (n(2), n(0)), (n(3), n(2)), (n(4), n(0))], [[2], [3], [4], [5]], n(5))
            self.becomes(ahead, code([(), (), (), ()], [[], [], [], []], n(0)))

    def test_loops_within_loops(self):
        # The outermost param can go only when all those within are gone.
        depth = 6

        def code(kept):
            def args(name):
                return (n(name),) * kept
            blocks = [Block([0, 1], [], Jump((1, args(0))))]
            for number in range(1, depth + 1):
                inner = (number + 1, args(10 + number)) if number < depth else (number, args(10 + number))
                blocks.append(Block([10 + number] * kept, [TICK], Branch(n(1), inner, (depth + number,
                                                                                      args(10 + number)))))
            for number in range(1, depth + 1):
                end = Jump((number - 1, args(20 + number))) if number > 1 else Back(n(21) if kept else n(0))
                blocks.append(Block([20 + number] * kept, [], end))
            return Code({"main": made([NUM, TRUTH], NUM, *blocks, n1=TRUTH)})
        self.becomes(code(1), code(0))

    def test_in_whatever_order(self):
        for seed in range(60):
            for function in Drawer(seed).code().functions.values():
                told = [shown(gone_one_by_one(function.told(), order)) for order in range(5)]
                self.assertEqual(len(set(told)), 1)

    def test_great_functions(self):
        count = 2300
        blocks = [Block([0, 1], [], Jump((1, (n(0),))))]
        for number in range(1, count + 1):
            inner = (number + 1, (n(number + 1),)) if number < count else (number, (n(number + 1),))
            blocks.append(Block([number + 1], [TICK], Branch(n(1), inner, (count + number, (n(number + 1),)))))
        for number in range(1, count + 1):
            name = count + number + 1
            blocks.append(Block([name], [], Jump((number - 1, (n(name),))) if number > 1 else Back(n(name))))
        ahead = Code({"main": made([NUM, TRUTH], NUM, *blocks, n1=TRUTH)})
        behind, paper = Copies().tried(ahead)
        self.assertEqual(behind.functions["main"].kinds, {0: NUM, 1: TRUTH})
        self.assertTrue(Copies().holds(ahead, behind, paper))
        rows = [copy(place + 1, n(place)) for place in range(4000)]
        ahead = single(rows, Back(n(4000)), [NUM])
        behind, paper = Copies().tried(ahead)
        self.assertEqual(behind.told(), single([], Back(n(0)), [NUM]).told())
        self.assertTrue(Copies().holds(ahead, behind, paper))


class ByChance(CopiesOf):
    def test_of_programs(self):
        self.assertGreater(self.changes_of_sown(500), 150)

    def test_of_drawn_codes(self):
        self.assertGreater(self.changes_of_drawn(700), 500)


if __name__ == "__main__":
    unittest.main()
