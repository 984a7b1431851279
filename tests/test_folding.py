"""Points 4, 6, 81 and 84: folding."""

import unittest

from eachstepsame.blocks import Back, Block, Branch, Code, Function, Jump, Risk, Row
from eachstepsame.folding import Fold
from eachstepsame.ops import is_pure, reckoned
from eachstepsame.walk import plain_of
from tests.helper import (
    FLAG, NO, NUM, TICK, TRUTH, WIDE, YES, Tried, made, n, noted, num, plain_cases, sample_code, single,
)


class Wanted:
    """A second reading of 81: each name's image is asked for by itself, from what its row reads."""

    def __init__(self, function):
        self.function = function
        self.rows = {row.name: row for block in function.blocks for row in block.rows if row.name is not None}
        self.known = {}

    def image(self, operand):
        if operand[0] != "name" or operand[1] not in self.rows:
            return operand
        if operand[1] not in self.known:
            self.known[operand[1]] = self.of_row(self.rows[operand[1]]) or operand
        return self.known[operand[1]]

    def of_row(self, row):
        operands = [self.image(operand) for operand in row.operands]
        kind = self.function.kinds[row.name]
        if all(operand[0] != "name" for operand in operands) and kind in (NUM, TRUTH) and is_pure(row.op):
            return (kind[0], reckoned(row.op, row.extra, [operand[1] for operand in operands]))
        return plain_of(row.op, *operands) if len(operands) == 2 else None

    def told(self):
        """What the function behind tells, and what stands in the paper; None where nothing changes."""
        names = {name: self.image(n(name)) for name in self.function.kinds}
        gone = [name for name, operand in names.items() if operand != n(name)]
        if not gone:
            return None
        blocks = [Block(block.params, [row.moved(names, {}) for row in block.rows if row.name not in gone],
                        block.end.moved(names, {})) for block in self.function.blocks]
        kinds = {name: kind for name, kind in self.function.kinds.items() if name not in gone}
        behind = Function(self.function.takes, self.function.gives, kinds, blocks)
        return behind.told(), ({number: number for number in range(len(blocks))}, names)


class Folds(Tried):
    rewriting, without = Fold, ("moved", "known", "param")

    def wanted(self, function):
        return Wanted(function).told()


class ByHand(Folds):
    def test_title(self):
        self.assertEqual(Fold().known_as(), "fold")

    def test_constants(self):
        for op, operands, told in [
            ("add", [num(3), num(4)], num(7)), ("sub", [num(3), num(4)], num(-1)), ("neg", [num(3)], num(-3)),
            ("less", [num(3), num(4)], YES), ("same", [num(3), num(4)], NO), ("and", [YES, NO], NO),
            ("or", [YES, NO], YES),
            ("not", [YES], NO), ("copy", [num(1)], num(1)), ("copy", [YES], YES), ("neg", [num(0)], num(0)),
            ("less", [num(-3), num(-3)], NO), ("add", [num(10 ** 60), num(1)], num(10 ** 60 + 1)),
        ]:
            kind = (told[0],)
            self.becomes(single([Row(1, op, None, operands), noted(n(1))], Back(n(1)), [NUM], kind, n1=kind),
                         single([noted(told)], Back(told), [NUM], kind))

    def test_plain_rows(self):
        for op, one, other, told in plain_cases(n(0), n(1)):
            kind = NUM if op in ("add", "sub") else TRUTH
            self.becomes(single([Row(2, op, None, [one, other])], Back(n(2)), [NUM, TRUTH], kind, n1=TRUTH, n2=kind),
                         single([], Back(told), [NUM, TRUTH], kind, n1=TRUTH))

    def test_rows_that_stay(self):
        a, b, p = n(0), n(1), n(2)
        for op, operands in [
            ("add", [a, num(1)]), ("sub", [num(0), a]), ("add", [a, a]), ("sub", [a, b]), ("less", [a, b]),
            ("same", [a, num(0)]),
            ("and", [p, p]), ("or", [p, p]), ("not", [p]), ("neg", [a]), ("copy", [a]), ("copy", [p]),
            ("less", [num(0), a]),
        ]:
            kind = NUM if op in ("add", "sub", "neg") or operands == [a] else TRUTH
            self.stays(single([Row(3, op, None, operands)], Back(n(3)), [NUM, NUM, TRUTH], kind, n2=TRUTH, n3=kind))
        self.stays(sample_code())

    def test_rows_and_records_are_no_constants(self):
        made_row = Row(0, "make", WIDE, [num(1), num(2)])
        self.stays(single([made_row], Back(n(0)), (), WIDE, n0=WIDE))
        self.stays(single([made_row, Row(1, "get", 0, [n(0)])], Back(n(1)), n0=WIDE))
        self.stays(single([made_row, Row(1, "put", 0, [n(0), num(5)])], Back(n(1)), (), WIDE, n0=WIDE, n1=WIDE))
        self.stays(single([Row(0, "make", FLAG, [YES, num(2)])], Back(n(0)), (), FLAG, n0=FLAG))
        self.stays(single([Row(0, "make", ("record", (NUM,)), [num(2)])], Back(num(1)), n0=("record", (NUM,))))
        self.stays(single([Row(0, "make", ("row", 2), [num(0), num(0)])], Back(num(1)), n0=("row", 2)))
        # But what they are made of is put as its image.
        self.becomes(single([Row(0, "neg", None, [num(1)]), Row(1, "make", WIDE, [n(0), n(0)]),
                             Row(2, "put", 1, [n(1), n(0)])], Back(n(2)), (), WIDE, n1=WIDE, n2=WIDE),
                     single([Row(1, "make", WIDE, [num(-1), num(-1)]), Row(2, "put", 1, [n(1), num(-1)])],
                            Back(n(2)), (), WIDE, n1=WIDE, n2=WIDE))

    def test_rows_whose_operands_were_folded(self):
        rows = [Row(2, "sub", None, [n(0), n(0)]), Row(3, "add", None, [n(1), n(2)]), Row(4, "same", None,
                                                                                          [n(3), n(1)]),
                Row(5, "not", None, [n(4)]), Row(6, "or", None, [n(5), n(4)]), Row(7, "add", None, [n(3), num(1)])]
        self.becomes(single(rows + [noted(n(6)), noted(n(5))], Back(n(7)), [NUM, NUM], n4=TRUTH, n5=TRUTH, n6=TRUTH),
                     single([Row(7, "add", None, [n(1), num(1)]), noted(YES), noted(NO)], Back(n(7)), [NUM, NUM]))

    def test_equal_only_as_images(self):
        # 4 and 5 are both the image of 0, so their difference is 0; 6 and 7 stay, though they are alike.
        rows = [Row(4, "add", None, [n(0), num(0)]), Row(5, "sub", None, [n(0), num(0)]), Row(6, "neg", None, [n(4)]),
                Row(7, "neg", None, [n(5)]), Row(8, "sub", None, [n(4), n(5)]), Row(9, "sub", None, [n(6), n(7)])]
        self.becomes(single(rows + [noted(n(8))], Back(n(9)), [NUM]),
                     single([Row(6, "neg", None, [n(0)]), Row(7, "neg", None, [n(0)]), Row(9, "sub", None,
                                                                                           [n(6), n(7)]),
                             noted(num(0))], Back(n(9)), [NUM]))

    def test_ends_and_edges(self):
        def code(rows, zero, yes, kinds):
            return Code({"main": made([NUM], NUM, Block([0], rows, Branch(yes, (1, (zero, n(0))), (2, ()))),
                                      Block([5, 6], [], Risk("div", None, [n(5), zero], (3, (zero,)),
                                                             [("zero", (3, (n(5), zero)))])),
                                      Block([], [], Risk("call", "main", [zero], (3, (zero,)), [("a", (4, (zero,)))])),
                                      Block([7, 8], [noted(zero)], Back(zero)), Block([9], [], Back(n(9))), **kinds)})
        rows = [Row(1, "sub", None, [n(0), n(0)]), Row(2, "same", None, [n(0), n(0)])]
        self.becomes(code(rows, n(1), n(2), {"n2": TRUTH}), code([], num(0), YES, {}))

    def test_ends_that_become_known_stay(self):
        ahead = Code({"main": made([], NUM, Block([], [Row(0, "not", None, [YES])], Branch(n(0), (1, ()), (2, ()))),
                                   Block([], [], Back(num(1))), Block([], [], Back(num(2))), n0=TRUTH)})
        behind = Code({"main": made([], NUM, Block([], [], Branch(NO, (1, ()), (2, ()))), Block([], [], Back(num(1))),
                                    Block([], [], Back(num(2))))})
        self.becomes(ahead, behind)

    def test_params_stay_themselves(self):
        code = Code({"main": made([NUM], NUM, Block([0], [], Jump((1, (num(4), num(4))))),
                                  Block([1, 2], [Row(3, "sub", None, [n(1), n(2)]), Row(4, "add", None,
                                                                                        [n(1), num(1)])],
                                        Back(n(3))))})
        self.stays(code)

    def test_logs_and_ticks_stay(self):
        self.becomes(single([noted(n(0)), TICK, Row(1, "add", None, [num(0), n(0)]), TICK, noted(n(1)), noted(num(2))],
                            Back(n(1)), [NUM]),
                     single([noted(n(0)), TICK, TICK, noted(n(0)), noted(num(2))], Back(n(0)), [NUM]))

    def test_blocks_whose_rulers_have_greater_numbers(self):
        # One comes 0, 3, 2, 1: each reads what the one ahead gave.
        def code(rows, backs):
            return Code({"main": made([NUM], NUM, Block([0], [], Jump((3, ()))), Block([], rows[2], Back(backs)),
                                      Block([], rows[1], Jump((1, ()))), Block([], rows[0], Jump((2, ()))))})
        ahead = code([[Row(1, "sub", None, [n(0), n(0)])], [Row(2, "add", None, [n(1), num(5)])],
                      [Row(3, "neg", None, [n(2)]), noted(n(1))]], n(3))
        self.becomes(ahead, code([[], [], [noted(num(0))]], num(-5)))

    def test_in_a_loop(self):
        def code(rows, zero):
            return Code({"main": made([NUM], NUM, Block([0], rows[:1], Jump((1, (zero,)))),
                                      Block([2], [TICK] + rows[1:] + [Row(4, "less", None, [n(2), n(0)])],
                                            Branch(n(4), (2, ()), (3, ()))),
                                      Block([], [Row(5, "add", None, [n(2), num(1)])], Jump((1, (n(5),)))),
                                      Block([], [], Back(n(2))), n4=TRUTH)})
        rows = [Row(1, "sub", None, [n(0), n(0)]), Row(3, "sub", None, [n(2), n(2)])]
        self.becomes(code(rows, n(1)), code([], num(0)))

    def test_great_functions(self):
        count = 4000
        rows = [Row(place + 1, "add", None, [n(place), num(0)]) for place in range(count)]
        blocks = [Block([0], rows[:1], Jump((1, ())))] + [Block([], [row], Jump((place + 2, ())))
                                                          for place, row in enumerate(rows[1:])]
        ahead = Code({"main": made([NUM], NUM, *blocks, Block([], [], Back(n(count))))})
        behind, paper = Fold().tried(ahead)
        self.assertEqual(behind.width(), count + 1)
        self.assertEqual(behind.functions["main"].blocks[-1].end.told(), ("back", n(0)))
        self.assertTrue(Fold().holds(ahead, behind, paper))


class ByChance(Folds):
    def test_of_programs(self):
        self.assertGreater(self.changes_of_sown(900), 300)

    def test_of_drawn_codes(self):
        self.assertGreater(self.changes_of_drawn(500), 400)


if __name__ == "__main__":
    unittest.main()
