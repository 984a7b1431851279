"""Points 4, 50 to 54 and 58: the form of blocks, what it tells, and how it is put otherwise."""

import copy
import inspect
import unittest

from eachstepsame import blocks
from eachstepsame.blocks import (
    Back, Block, Branch, Code, End, Function, Jump, Raise, Risk, Row, edge_image, image, images,
)
from tests.helper import FLAG, NO, NUM, TICK, TRUTH, YES, n, num, sample_code, sample_main, shown

ENDS = [
    Jump((3, (n(1), num(4)))),
    Branch(n(1), (2, (n(1), n(2))), (3, (YES,))),
    Back(n(2)),
    Raise("oops"),
    Risk("pick", None, [n(1), n(2)], (2, (n(3),)), [("range", (3, (n(1), num(5)))), ("zero", (4, ()))]),
]
TOLD = [
    ("jump", (3, (n(1), num(4)))),
    ("branch", n(1), (2, (n(1), n(2))), (3, (YES,))),
    ("back", n(2)),
    ("raise", "oops"),
    ("risk", "pick", None, (n(1), n(2)), (2, (n(3),)), (("range", (3, (n(1), num(5)))), ("zero", (4, ())))),
]


class Interface(unittest.TestCase):
    def test_arguments_and_fields(self):
        for made, arguments in [
            (Row, ["name", "op", "extra", "operands"]), (Jump, ["edge"]), (Branch, ["test", "yes", "no"]),
            (Back, ["operand"]), (Raise, ["fault"]), (Risk, ["op", "extra", "asked", "edge", "catches"]),
            (Block, ["params", "rows", "end"]), (Function, ["takes", "gives", "kinds", "blocks"]),
            (Code, ["functions"]),
        ]:
            self.assertEqual(list(inspect.signature(made).parameters), arguments)
        for end in ENDS:
            self.assertIsInstance(end, End)
            self.assertEqual(end.__class__.__bases__, (End,))
        self.assertTrue(inspect.isclass(blocks.End))

    def test_fields_have_what_was_handed_in(self):
        row = Row(4, "get", 1, [n(2)])
        self.assertEqual((row.name, row.op, row.extra, row.operands), (4, "get", 1, (n(2),)))
        jump, branch, end, fault, risk = ENDS
        self.assertEqual(jump.edge, (3, (n(1), num(4))))
        self.assertEqual((branch.test, branch.yes, branch.no), (n(1), (2, (n(1), n(2))), (3, (YES,))))
        self.assertEqual((end.operand, fault.fault), (n(2), "oops"))
        self.assertEqual((risk.op, risk.extra, risk.asked, risk.edge), ("pick", None, (n(1), n(2)), (2, (n(3),))))
        self.assertEqual(risk.catches, (("range", (3, (n(1), num(5)))), ("zero", (4, ()))))
        block = Block([1, 2], [row], end)
        self.assertEqual((block.params, block.rows, block.end), ((1, 2), (row,), end))
        function = Function([NUM], TRUTH, {1: NUM}, [block])
        self.assertEqual((function.takes, function.gives, function.kinds), ((NUM,), TRUTH, {1: NUM}))
        self.assertEqual(function.blocks, (block,))
        code = Code({"main": function})
        self.assertEqual(code.functions, {"main": function})

    def test_tuples_of_lists_and_of_tuples(self):
        for sort in [list, tuple]:
            row = Row(1, "add", None, sort([n(1), n(2)]))
            risk = Risk("call", "f", sort([n(1)]), (1, ()), sort([("a", (1, ()))]))
            block = Block(sort([3]), sort([row]), risk)
            function = Function(sort([NUM]), NUM, {}, sort([block]))
            for value in [row.operands, risk.asked, risk.catches, block.params, block.rows, function.takes,
                          function.blocks]:
                self.assertIs(value.__class__, tuple)
                self.assertEqual(len(value), 2 if value is row.operands else 1)

    def test_kinds_and_functions_are_copies(self):
        kinds = {1: NUM}
        function = Function((), NUM, kinds, [])
        self.assertIs(function.kinds.__class__, dict)
        kinds[2] = TRUTH
        self.assertEqual(function.kinds, {1: NUM})
        self.assertEqual(function.told()[2], ((1, NUM),))
        functions = {"main": function}
        code = Code(functions)
        functions["f"] = function
        self.assertEqual(list(code.functions), ["main"])
        self.assertEqual(code.names(), ["main"])


class Later(unittest.TestCase):
    def test_what_was_handed_in_as_a_list_may_be_changed(self):
        operands, asked, catches, params, rows, takes, some = [n(1)], [n(2)], [("a", (1, ()))], [3], [TICK], [NUM], []
        row, risk = Row(1, "copy", None, operands), Risk("call", "f", asked, (1, ()), catches)
        block = Block(params, rows, risk)
        some.append(block)
        function = Function(takes, NUM, {3: NUM}, some)
        kept = shown((row.told(), risk.told(), block.told(), function.told()))
        for handed in [operands, asked, catches, params, rows, takes, some]:
            handed.clear()
        self.assertEqual(shown((row.told(), risk.told(), block.told(), function.told())), kept)
        self.assertEqual(row.operands, (n(1),))
        self.assertEqual(function.blocks, (block,))

    def test_what_was_told_may_be_emptied(self):
        code = sample_code()
        kept = shown(code.told())
        for function in code.functions.values():
            for block in function.blocks:
                for asked in [block.given, block.end.edges, block.end.reads, block.end.every_read]:
                    first = asked()
                    self.assertIs(first.__class__, list)
                    before = list(first)
                    first.clear()
                    first.append("other")
                    self.assertEqual(asked(), before)
        code.names().clear()
        self.assertEqual(code.names(), ["f", "g", "main"])
        self.assertEqual(shown(code.told()), kept)

    def test_the_form_stays_though_a_field_is_emptied(self):
        code = sample_code()
        kept, width = shown(code.told()), code.width()
        for function in list(code.functions.values()):
            function.kinds.clear()
        code.functions.clear()
        self.assertEqual((shown(code.told()), code.width()), (kept, width))
        self.assertEqual(code.with_function("h", sample_main()).names(), ["f", "g", "h", "main"])


class Images(unittest.TestCase):
    NAMES = {1: n(10), 2: num(5), 3: YES, 4: n(2)}

    def test_operands(self):
        for operand, wanted in [
            (n(1), n(10)), (n(2), num(5)), (n(3), YES), (n(4), n(2)), (n(5), n(5)), (num(1), num(1)), (num(2), num(2)),
            (YES, YES), (NO, NO), (num(3), num(3)),
        ]:
            self.assertEqual(shown(image(operand, self.NAMES)), shown(wanted))
            self.assertEqual(shown(image(operand, {})), shown(operand))

    def test_a_truth_is_no_name(self):
        self.assertEqual(shown(image(YES, {True: n(4), 1: n(5)})), shown(YES))
        self.assertEqual(shown(image(num(1), {1: n(5)})), shown(num(1)))

    def test_many_operands_all_at_once(self):
        for sort in [list, tuple]:
            handed = sort([n(1), n(4), n(2), n(9), num(1)])
            self.assertEqual(shown(images(handed, self.NAMES)), shown((n(10), n(2), num(5), n(9), num(1))))
            self.assertEqual(handed, sort([n(1), n(4), n(2), n(9), num(1)]))
        self.assertEqual(images([], self.NAMES), ())
        turned = {1: n(2), 2: n(1)}
        self.assertEqual(images((n(1), n(2)), turned), (n(2), n(1)))

    def test_edges(self):
        edge = (3, (n(1), num(3), n(7)))
        self.assertEqual(edge_image(edge, self.NAMES, {3: 8}), (8, (n(10), num(3), n(7))))
        self.assertEqual(edge_image(edge, {}, {4: 8, 8: 3}), edge)
        self.assertEqual(edge_image(edge, {7: n(3)}, {}), (3, (n(1), num(3), n(3))))
        self.assertEqual(edge_image((1, ()), self.NAMES, {1: 2, 2: 3}), (2, ()))


class Told(unittest.TestCase):
    def test_rows(self):
        self.assertEqual(Row(4, "get", 1, [n(2)]).told(), (4, "get", 1, (n(2),)))
        self.assertEqual(TICK.told(), (None, "tick", None, ()))
        self.assertEqual(Row(None, "log", None, (YES,)).told(), (None, "log", None, (YES,)))
        self.assertEqual(Row(1, "make", FLAG, [YES, n(2)]).told(), (1, "make", FLAG, (YES, n(2))))

    def test_ends(self):
        for end, told in zip(ENDS, TOLD):
            self.assertEqual(shown(end.told()), shown(told))

    def test_blocks(self):
        block = Block([1, 2], [TICK, Row(3, "neg", None, [n(1)])], ENDS[1])
        self.assertEqual(shown(block.told()), shown(
            ((1, 2), ((None, "tick", None, ()), (3, "neg", None, (n(1),))), TOLD[1])))
        self.assertEqual(Block((), (), Raise("a")).told(), ((), (), ("raise", "a")))

    def test_functions(self):
        block = Block([1], [], Back(n(1)))
        function = Function([NUM, TRUTH], FLAG, {10: NUM, 9: TRUTH, 1: FLAG, 100: NUM}, [block, Block([], [], ENDS[0])])
        self.assertEqual(shown(function.told()), shown((
            (NUM, TRUTH), FLAG, ((1, FLAG), (9, TRUTH), (10, NUM), (100, NUM)),
            (((1,), (), ("back", n(1))), ((), (), TOLD[0])))))
        self.assertEqual(Function([], NUM, {}, []).told(), ((), NUM, (), ()))

    def test_codes(self):
        code = sample_code()
        self.assertEqual([name for name, function in code.told()], ["f", "g", "main"])
        self.assertEqual(shown(code.told()), shown(tuple(
            (name, code.functions[name].told()) for name in ["f", "g", "main"])))
        self.assertEqual(code.told()[1], ("g", (
            (NUM,), ("row", 2), ((5, NUM), (6, ("row", 2)), (7, ("row", 2))), ((
                (5,),
                ((6, "make", ("row", 2), (n(5), num(1))), (7, "copy", None, (n(6),)), (None, "log", None, (YES,))),
                ("back", n(7))),))))
        self.assertEqual(Code({}).told(), ())

    def test_the_same_just_where_equal(self):
        self.assertEqual(sample_code().told(), sample_code().told())
        other = sample_code()
        other = other.with_function("g", Function((NUM,), NUM, {5: NUM}, [Block((5,), (), Back(n(5)))]))
        self.assertNotEqual(sample_code().told(), other.told())

    def test_edges(self):
        jump, branch, end, fault, risk = ENDS
        self.assertEqual(shown(jump.edges()), shown([((3, (n(1), num(4))), False)]))
        self.assertEqual(shown(branch.edges()), shown([((2, (n(1), n(2))), False), ((3, (YES,)), False)]))
        self.assertEqual((end.edges(), fault.edges()), ([], []))
        self.assertEqual(shown(risk.edges()), shown(
            [((2, (n(3),)), True), ((3, (n(1), num(5))), False), ((4, ()), False)]))
        self.assertEqual(Risk("call", "f", (), (2, ()), ()).edges(), [((2, ()), True)])

    def test_reads(self):
        self.assertEqual([end.reads() for end in ENDS], [[], [n(1)], [n(2)], [], [n(1), n(2)]])
        self.assertEqual([end.every_read() for end in ENDS], [
            [n(1), num(4)], [n(1), n(1), n(2), YES], [n(2)], [], [n(1), n(2), n(3), n(1), num(5)]])
        self.assertEqual(shown(Branch(YES, (1, ()), (2, (NO, YES))).every_read()), shown([YES, NO, YES]))

    def test_given_names(self):
        block = Block([5, 3], [Row(9, "neg", None, [n(3)]), TICK, Row(None, "log", None, [n(3)]),
                               Row(1, "neg", None, [n(3)])], Raise("a"))
        self.assertEqual(block.given(), [5, 3, 9, 1])
        self.assertEqual(Block([0], [Row(0, "neg", None, [n(0)])], Raise("a")).given(), [0, 0])
        self.assertEqual(Block([], [TICK], Raise("a")).given(), [])

    def test_ticks(self):
        self.assertIs(Block([], [TICK], Raise("a")).ticks(), True)
        self.assertIs(Block([], [Row(1, "neg", None, [n(3)]), Row(4, "tick", 5, [n(3)])], Raise("a")).ticks(), True)
        self.assertIs(Block([1], [Row(1, "neg", None, [n(3)]), Row(None, "log", None, [n(1)])], ENDS[4]).ticks(), False)
        self.assertIs(Block([], [], Risk("call", "f", [], (1, ()), [])).ticks(), False)

    def test_widths(self):
        self.assertEqual(sample_main().width(), 8 + 7)
        self.assertEqual([sample_code().functions[name].width() for name in "fg"], [6, 4])
        self.assertEqual(sample_code().width(), 15)
        self.assertEqual(Function([], NUM, {}, []).width(), 0)
        small = Function([], NUM, {}, [Block([1, 2, 3], [], Raise("a"))])
        self.assertEqual((small.width(), Code({"main": small}).width()), (1, 1))
        self.assertEqual(sample_code().with_function("main", small).width(), 6)
        self.assertEqual(Code({}).width(), 0)

    def test_names_of_functions(self):
        function = sample_main()
        self.assertEqual(Code({"main": function, "zeta": function, "a": function}).names(), ["a", "main", "zeta"])
        self.assertEqual(Code({}).names(), [])

    def test_with_function(self):
        code, function = sample_code(), Function([], NUM, {}, [])
        kept = shown(code.told())
        more, other = code.with_function("h", function), code.with_function("g", function)
        self.assertEqual((more.names(), other.names()), (["f", "g", "h", "main"], ["f", "g", "main"]))
        self.assertEqual((more.functions["h"], other.functions["g"]), (function, function))
        self.assertEqual(more.functions["f"].told(), code.functions["f"].told())
        self.assertEqual(shown(code.told()), kept)
        self.assertIsInstance(more, Code)


class Moved(unittest.TestCase):
    NAMES = {1: n(11), 2: num(22), 7: n(1)}
    BLOCKS = {2: 12, 4: 2, 9: 1}

    def test_rows(self):
        row = Row(1, "put", 0, [n(1), n(2), n(3), num(1), YES])
        moved = row.moved(self.NAMES, {1: 31, 2: 32})
        self.assertIsInstance(moved, Row)
        self.assertEqual(shown(moved.told()), shown((31, "put", 0, (n(11), num(22), n(3), num(1), YES))))
        self.assertEqual(row.moved({}, {2: 32}).told(), row.told())
        self.assertEqual(row.moved(self.NAMES, {}).told()[0], 1)
        self.assertEqual(row.moved({}, {1: 31}).told(), (31,) + row.told()[1:])
        self.assertEqual(shown(row.told()), shown((1, "put", 0, (n(1), n(2), n(3), num(1), YES))))

    def test_rows_without_a_name(self):
        self.assertEqual(TICK.moved(self.NAMES, {1: 2}).told(), TICK.told())
        logged = Row(None, "log", None, [n(1)])
        self.assertEqual(logged.moved(self.NAMES, {1: 2}).told(), (None, "log", None, (n(11),)))

    def test_ends(self):
        wanted = [
            ("jump", (3, (n(11), num(4)))),
            ("branch", n(11), (12, (n(11), num(22))), (3, (YES,))),
            ("back", num(22)),
            ("raise", "oops"),
            ("risk", "pick", None, (n(11), num(22)), (12, (n(3),)),
             (("range", (3, (n(11), num(5)))), ("zero", (2, ())))),
        ]
        for end, told, before in zip(ENDS, wanted, TOLD):
            names, numbers = copy.deepcopy((self.NAMES, self.BLOCKS))
            moved = end.moved(names, numbers)
            self.assertIs(moved.__class__, end.__class__)
            self.assertIsNot(moved, end)
            self.assertEqual(shown(moved.told()), shown(told))
            self.assertEqual(shown(end.told()), shown(before))
            self.assertEqual((names, numbers), (self.NAMES, self.BLOCKS))
            self.assertEqual(shown(end.moved({}, {}).told()), shown(before))

    def test_other_edges(self):
        for end, told in zip(ENDS, TOLD):
            same = end.with_edges([edge for edge, handed in end.edges()])
            self.assertIs(same.__class__, end.__class__)
            self.assertEqual(shown(same.told()), shown(told))
            others = [(10 + place, (n(place),)) for place in range(len(end.edges()))]
            other = end.with_edges(others)
            self.assertEqual([edge for edge, handed in other.edges()], others)
            self.assertEqual(other.reads(), end.reads())
            self.assertEqual(shown(end.told()), shown(told))
        risk = ENDS[4].with_edges([(1, ()), (2, (YES,)), (3, ())])
        self.assertEqual(shown(risk.told()), shown(
            ("risk", "pick", None, (n(1), n(2)), (1, ()), (("range", (2, (YES,))), ("zero", (3, ()))))))

    def test_names_and_blocks_are_apart(self):
        end = Branch(n(2), (2, (n(2),)), (1, (n(1),)))
        self.assertEqual(end.moved({1: n(2), 2: n(1)}, {}).told(), ("branch", n(1), (2, (n(1),)), (1, (n(2),))))
        self.assertEqual(end.moved({}, {1: 2, 2: 1}).told(), ("branch", n(2), (1, (n(2),)), (2, (n(1),))))

    def test_what_was_handed_in_may_be_changed_later(self):
        names, numbers, given = dict(self.NAMES), dict(self.BLOCKS), {1: 31}
        moved = [end.moved(names, numbers) for end in ENDS] + [Row(1, "neg", None, [n(1)]).moved(names, given)]
        kept = [shown(one.told()) for one in moved]
        names.clear()
        numbers.clear()
        given.clear()
        self.assertEqual([shown(one.told()) for one in moved], kept)


if __name__ == "__main__":
    unittest.main()
