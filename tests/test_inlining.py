"""Points 4, 6, 110 to 113 and 117: functions put in the place of calls."""

import unittest
from random import Random

from eachstepsame.blockrun import run_blocks
from eachstepsame.blocks import Back, Block, Branch, Code, Function, Jump, Raise, Risk, Row
from eachstepsame.fits import is_fit, need_fit
from eachstepsame.inlining import PutIn
from eachstepsame.lowering import lowered
from eachstepsame.passes import measure
from eachstepsame.rewriting import same_paper
from eachstepsame.typer import typed
from tests.helper import (
    FLAG, NO, NUM, TICK, TRUTH, WIDE, YES, Drawer, Sower, Tried, add, back, call, choice, code_of, fails, fun, let,
    log, loop, made, n, name, neg, noted, num, otherwise, put, put_end, sample_code, settled, shown, shut, single,
    sown_code, things, trying, two,
)


def calls_of(told):
    """The blocks, of a function that tells this, that end by a call."""
    return [number for number, block in enumerate(told[3]) if block[2][:2] == ("risk", "call")]


def put_by_hand(told, paper):
    """A second reading of 112: what a code that tells this tells when a call is put in by a paper."""
    text, number, names, numbers = paper
    takes, gives, kinds, blocks = dict(told)[text]
    params, rows, (word, op, inner, asked, (to, args), catches) = blocks[number]
    blocks = dict(enumerate(blocks))
    blocks[number] = (params, rows + ((None, "tick", None, ()),), ("jump", (numbers[0], asked)))

    def of(operand):
        return n(names[operand[1]]) if operand[0] == "name" else operand

    def of_edge(edge, handed):
        return (numbers[edge[0]], tuple(of(arg) for arg in edge[1]))

    for place, (params, rows, end) in enumerate(dict(told)[inner][3]):
        end = put_end(end, of_edge, of)
        if end[0] == "back":
            end = ("jump", (to, (end[1],) + args))
        elif end[0] == "raise" and end[1] in dict(catches):
            end = ("jump", dict(catches)[end[1]])
        elif end[0] == "risk":
            end = end[:5] + (end[5] + tuple(catch for catch in catches if catch[0] not in dict(end[5])),)
        rows = tuple((names.get(row[0]),) + row[1:3] + (tuple(of(operand) for operand in row[3]),) for row in rows)
        blocks[numbers[place]] = (tuple(names[param] for param in params), rows, end)
    kinds = kinds + tuple((names[one], kind) for one, kind in dict(told)[inner][2])
    whole = (takes, gives, tuple(sorted(kinds)), tuple(blocks[place] for place in range(len(blocks))))
    return tuple((one, shut(whole)[0] if one == text else function) for one, function in told)


def paper_by_hand(told):
    """A second reading of 113; None where there is no such call."""
    functions = dict(told)
    widths = {text: sum(len(rows) + 1 for params, rows, end in function[3]) for text, function in told}
    for text, function in told:
        for number in calls_of(function):
            inner = function[3][number][2][2]
            if inner == "main" or calls_of(functions[inner]) or widths[inner] > 12:
                continue
            if widths[text] + 1 + widths[inner] > 300:
                continue
            begin = max([one for one, kind in function[2]], default=-1) + 1
            names = sorted(one for one, kind in functions[inner][2])
            return (text, number, {one: begin + place for place, one in enumerate(names)},
                    {place: len(function[3]) + place for place in range(len(functions[inner][3]))})
    return None


def whole(thing):
    return thing.__class__ is int


def is_paper_by_hand(told, thing):
    """A second reading of 111."""
    functions = dict(told)
    if thing.__class__ is not tuple or len(thing) != 4 or thing[0].__class__ is not str or thing[0] not in functions:
        return False
    text, number, names, numbers = thing
    function = functions[text]
    if not whole(number) or number not in calls_of(function):
        return False
    inner = functions[function[3][number][2][2]]
    for told_dict, keys in [(names, [one for one, kind in inner[2]]), (numbers, range(len(inner[3])))]:
        if told_dict.__class__ is not dict or not all(whole(part) for pair in told_dict.items() for part in pair):
            return False
        if set(told_dict) != set(keys) or len(set(told_dict.values())) != len(told_dict):
            return False
    if set(names.values()) & {one for one, kind in function[2]} or any(one < 0 for one in names.values()):
        return False
    return set(numbers.values()) == set(range(len(function[3]), len(function[3]) + len(inner[3])))


def some_paper(told, chance):
    """A paper for some call, with whatever names and numbers; None where there is no call."""
    some = [(text, number) for text, function in told for number in calls_of(function)]
    if not some:
        return None
    text, number = chance.choice(some)
    function = dict(told)[text]
    inner = dict(told)[function[3][number][2][2]]
    free = [one for one in range(2000) if one not in dict(function[2])]
    places = [len(function[3]) + place for place in range(len(inner[3]))]
    chance.shuffle(places)
    return (text, number, dict(zip([one for one, kind in inner[2]], chance.sample(free, len(inner[2])))),
            dict(enumerate(places)))


class Putting(Tried):
    rewriting, at_once = PutIn, False

    def all_wanted(self, code):
        paper = paper_by_hand(code.told())
        return None if paper is None else (put_by_hand(code.told(), paper), paper)

    def comes(self, code):
        behind = Tried.comes(self, code)
        if behind is not None:
            self.assertLess(measure(behind)[0], measure(code)[0])
            self.assertTrue(is_paper_by_hand(code.told(), PutIn().tried(code)[1]))
        return behind

    def lets_by(self, ahead, paper, wanted=None):
        """Whatever names and numbers a paper tells: it is let by with the one form behind, which does the same."""
        need_fit(ahead)
        kept = shown((ahead.told(), paper))
        behind = code_of(put_by_hand(ahead.told(), paper))
        need_fit(behind)
        if wanted is not None:
            self.assertEqual(shown(behind.told()), shown(wanted.told()))
        self.assertIs(PutIn().holds(ahead, behind, paper), True)
        self.assertIs(PutIn().holds(ahead, ahead, paper), False)
        self.assertEqual(shown((ahead.told(), paper)), kept)
        return behind


def calling(*blocks, end=None, more=(), **functions):
    """Main takes a number and a truth, and calls f; 2 is the result, and it gives it back plus the number."""
    end = end or Risk("call", "f", [n(0)], (1, ()), [])
    return Code({"f": made([NUM], NUM, *blocks), "main": made(
        [NUM, TRUTH], NUM, Block([0, 1], [noted(n(0))], end), Block([2], [add(3, n(2), n(0))], Back(n(3))), *more,
        n1=TRUTH), **functions})


BACK = Block([0], [neg(1, n(0))], Back(n(1)))


class WhatComes(Putting):
    def main(self, code):
        """The blocks of main behind, and what is told of its kinds."""
        behind = self.comes(code)
        for inputs in [[0, True], [1, False], [-3, True], [10 ** 40, False]]:
            self.runs_alike(code, behind, inputs, range(7))
        told = behind.functions["main"].told()
        return told[3], dict(told[2])

    def test_title(self):
        self.assertEqual(PutIn().known_as(), "putin")

    def test_by_hand(self):
        code = calling(BACK)
        behind, paper = PutIn().tried(code)
        self.assertEqual(settled(paper), settled(("main", 0, {0: 4, 1: 5}, {0: 2})))
        self.assertEqual(shown(behind.told()), shown(Code({"f": code.functions["f"], "main": made(
            [NUM, TRUTH], NUM, Block([0, 1], [noted(n(0)), TICK], Jump((2, (n(0),)))),
            Block([2], [add(3, n(2), n(0))], Back(n(3))), Block([4], [neg(5, n(4))], Jump((1, (n(5),)))),
            n1=TRUTH)}).told()))
        self.becomes(code, behind)
        self.stays(behind)

    def test_a_back_of_a_constant(self):
        blocks, kinds = self.main(calling(Block([0], [], Back(num(7)))))
        self.assertEqual(blocks[2], ((4,), (), ("jump", (1, (num(7),)))))

    def test_several_backs(self):
        f = [Block([0], [Row(1, "less", None, [n(0), num(0)])], Branch(n(1), (1, ()), (2, ()))),
             Block([], [], Back(n(0))), Block([], [neg(2, n(0))], Back(n(2)))]
        code = calling().with_function("f", made([NUM], NUM, *f, n1=TRUTH))
        blocks, kinds = self.main(code)
        self.assertEqual([block[2] for block in blocks[2:]], [
            ("branch", n(5), (3, ()), (4, ())), ("jump", (1, (n(4),))), ("jump", (1, (n(6),)))])
        self.assertEqual(kinds, {0: NUM, 1: TRUTH, 2: NUM, 3: NUM, 4: NUM, 5: TRUTH, 6: NUM})

    def test_args_of_the_calls_edge(self):
        end = Risk("call", "f", [n(0)], (2, (num(9), n(0))), [])
        code = calling(BACK, end=end, more=[Block([4, 5, 6], [add(7, n(4), n(5)), add(8, n(7), n(6))],
                                                  Jump((1, (n(8),))))])
        blocks, kinds = self.main(code)
        self.assertEqual(blocks[3], ((9,), ((10, "neg", None, (n(9),)),), ("jump", (2, (n(10), num(9), n(0))))))

    def test_a_raise_that_is_not_caught(self):
        for catches in [[], [("other", (1, (num(1),)))]]:
            end = Risk("call", "f", [n(0)], (1, ()), catches)
            blocks, kinds = self.main(calling(Block([0], [], Raise("oops")), end=end))
            # Nobody comes to what was behind the call.
            self.assertEqual([block[2][0] for block in blocks], ["jump", "raise"])
            self.assertEqual(blocks[1], ((4,), (), ("raise", "oops")))
            self.assertEqual(sorted(kinds), [0, 1, 4])

    def test_a_raise_that_is_caught(self):
        catches = [("other", (1, (num(1),))), ("oops", (1, (n(0),))), ("end", (2, ()))]
        code = calling(Block([0], [], Raise("oops")), end=Risk("call", "f", [n(0)], (1, ()), catches),
                       more=[Block([], [], Back(num(6)))])
        blocks, kinds = self.main(code)
        # The catch of another fault leads nowhere any more.
        self.assertEqual([block[2] for block in blocks], [
            ("jump", (2, (n(0),))), ("back", n(3)), ("jump", (1, (n(0),)))])

    def test_risks(self):
        catches = [("zero", (1, (num(50),))), ("great", (1, (num(60),))), ("oops", (2, ()))]
        own = [("range", (2, (n(0),))), ("great", (2, (num(3),)))]
        f = [Block([0], [], Risk("div", None, [num(6), n(0)], (1, (n(0),)), [])),
             Block([1, 2], [], Risk("mul", None, [n(1), n(0)], (2, ()), own)), Block([3], [], Back(n(3)))]
        code = calling(*f, end=Risk("call", "f", [n(0)], (1, ()), catches), more=[Block([], [], Back(num(8)))])
        blocks, kinds = self.main(code)
        self.assertEqual(blocks[3][2], ("risk", "div", None, (num(6), n(4)), (4, (n(4),)), (
            ("zero", (1, (num(50),))), ("great", (1, (num(60),))), ("oops", (2, ())))))
        # Its own ones stay ahead, and those of the call that have the same fault are left out.
        self.assertEqual(blocks[4][2], ("risk", "mul", None, (n(5), n(4)), (5, ()), (
            ("range", (5, (n(4),))), ("great", (5, (num(3),))), ("zero", (1, (num(50),))), ("oops", (2, ())))))

    def test_risks_of_a_call_without_catches(self):
        f = [Block([0], [], Risk("div", None, [num(6), n(0)], (1, ()), [("zero", (2, ()))])),
             Block([1], [], Risk("mul", None, [n(1), n(1)], (3, ()), [])), Block([], [], Raise("zero")),
             Block([3], [], Back(n(3)))]
        blocks, kinds = self.main(calling(*f))
        self.assertEqual([block[2] for block in blocks[2:]], [
            ("risk", "div", None, (num(6), n(4)), (3, ()), (("zero", (4, ())),)),
            ("risk", "mul", None, (n(5), n(5)), (5, ()), ()), ("raise", "zero"), ("jump", (1, (n(6),)))])

    def test_a_loop(self):
        f = [Block([0], [], Jump((1, (n(0), num(0))))),
             Block([1, 2], [TICK, noted(n(1)), Row(3, "less", None, [n(1), num(2)])], Branch(n(3), (2, ()), (3, ()))),
             Block([], [add(4, n(1), num(1)), add(5, n(2), n(4))], Jump((1, (n(4), n(5))))),
             Block([], [], Back(n(2)))]
        code = calling().with_function("f", made([NUM], NUM, *f, n3=TRUTH))
        blocks, kinds = self.main(code)
        self.assertEqual(len(blocks), 6)
        self.assertEqual(kinds[7], TRUTH)
        self.assertEqual(blocks[4], ((), ((8, "add", None, (n(5), num(1))), (9, "add", None, (n(6), n(8)))),
                                     ("jump", (3, (n(8), n(9))))))

    def test_a_call_in_a_loop(self):
        main = [Block([0, 1], [], Jump((1, (n(0),)))), Block([2], [TICK], Branch(n(1), (2, ()), (3, ()))),
                Block([], [], Risk("call", "f", [n(2)], (1, ()), [("oops", (3, ()))])), Block([], [], Back(n(2)))]
        code = Code({"main": made([NUM, TRUTH], NUM, *main, n1=TRUTH), "f": made([NUM], NUM, BACK)})
        blocks, kinds = self.main(code)
        self.assertEqual([block[2][0] for block in blocks], ["jump", "branch", "jump", "back", "jump"])
        # A loop that has no tick but that of the call.
        main[1] = Block([2], [], Branch(n(1), (2, ()), (3, ())))
        code = Code({"main": made([NUM, TRUTH], NUM, *main, n1=TRUTH), "f": made([NUM], NUM, BACK)})
        self.assertFalse(is_fit(code))

    def test_kinds_of_all_sorts(self):
        f = made([FLAG, WIDE], FLAG, Block([0, 1], [Row(2, "get", 0, [n(1)]), Row(3, "put", 1, [n(0), n(2)])],
                                           Back(n(3))), n0=FLAG, n1=WIDE, n3=FLAG)
        main = made([WIDE], FLAG, Block([0], [Row(1, "make", FLAG, [YES, num(4)])],
                                        Risk("call", "f", [n(1), n(0)], (1, ()), [])),
                    Block([2], [], Back(n(2))), n0=WIDE, n1=FLAG, n2=FLAG)
        code = Code({"main": main, "f": f})
        behind = self.comes(code)
        self.assertEqual(behind.functions["main"].kinds, {0: WIDE, 1: FLAG, 2: FLAG, 3: FLAG, 4: WIDE, 5: NUM, 6: FLAG})
        self.runs_alike(code, behind, [(3, 4)])

    def test_few_names(self):
        # Neither takes anything, and main has the one name 0.
        main = made([], NUM, Block([], [], Risk("call", "f", [], (1, ()), [])), Block([0], [], Back(n(0))))
        f = made([], NUM, Block([], [Row(7, "copy", None, [num(3)]), Row(2, "neg", None, [n(7)])], Back(n(2))))
        code = Code({"main": main, "f": f})
        behind = self.comes(code)
        self.assertEqual(settled(PutIn().tried(code)[1]), settled(("main", 0, {2: 1, 7: 2}, {0: 2})))
        self.assertEqual(run_blocks(behind, [], 5).seen(), ("answer", num(-3), (), 1))
        # Where the greatest name is 0, and the inner function has none.
        code = code.with_function("f", made([], NUM, Block([], [noted(YES)], Raise("oops"))))
        behind = self.comes(code)
        self.assertEqual(settled(PutIn().tried(code)[1]), settled(("main", 0, {}, {0: 2})))
        self.assertEqual(behind.functions["main"].kinds, {})

    def test_order_of_names(self):
        # By their numbers, wherever they are given.
        f = made([NUM, NUM], NUM, Block([90, 5], [add(40, n(90), n(5))], Jump((1, (n(40),)))),
                 Block([1], [], Back(n(1))))
        main = made([NUM], NUM, Block([30], [], Risk("call", "f", [n(30), num(1)], (1, ()), [])),
                    Block([20], [], Back(n(20))))
        code = Code({"main": main, "f": f})
        self.comes(code)
        self.assertEqual(settled(PutIn().tried(code)[1]), settled(("main", 0, {1: 31, 5: 32, 40: 33, 90: 34},
                                                                   {0: 2, 1: 3})))

    def test_all_other_functions_stay(self):
        code = calling(BACK, g=made([NUM], NUM, Block([0], [], Back(num(1)))),
                       z=made([NUM], NUM, Block([4], [], Risk("call", "f", [n(4)], (1, ()), [])),
                              Block([5], [], Back(n(5)))))
        behind = self.comes(code)
        for text in ["f", "g", "z"]:
            self.assertEqual(behind.functions[text].told(), code.functions[text].told())
            self.assertIsNot(behind.functions[text].kinds, code.functions[text].kinds)

    def test_the_call_is_in_block_0_or_elsewhere(self):
        code = sample_code()
        behind = self.comes(code)
        # f calls g; main's call of f waits until f has no call any more.
        paper = PutIn().tried(code)[1]
        self.assertEqual(paper[:2], ("f", 0))
        last = self.comes(behind)
        self.assertEqual(PutIn().tried(behind)[1][:2], ("main", 5))
        self.stays(last)
        for inputs in [[0, True], [3, True], [12, True], [5, False], [-1, False]]:
            self.runs_alike(code, behind, inputs, range(9))
            self.runs_alike(code, last, inputs, range(9))

    def test_deep_calls(self):
        # h calls itself, and f each time; what is put in is f, and h stays as deep as it was.
        program = ((), (
            fun("main", [("a", NUM)], NUM, back(call("h", name("a")))),
            fun("h", [("a", NUM)], NUM, choice(two("<", name("a"), num(1)), [back(num(0))]),
                back(two("+", call("f", name("a")), call("h", two("-", name("a"), num(1)))))),
            fun("f", [("a", NUM)], NUM, choice(two("=", name("a"), num(3)), [fails("three")]), back(num(2)))))
        code = lowered(typed(program))
        behind = self.comes(code)
        for inputs, budget in [([4000], 10000), ([2], 10000), ([6000], 10000), ([5], 3)]:
            self.runs_alike(code, behind, inputs, [budget])
        self.assertEqual(run_blocks(behind, [2], 100).seen(), ("answer", num(4), (), 5))
        self.assertEqual(run_blocks(behind, [6000], 10000).ending, "dry")

    def test_a_program(self):
        program = ((), (
            fun("main", [("a", NUM)], NUM, let("s", num(0)), loop(
                two("<", name("s"), num(20)),
                trying([put("s", two("+", name("s"), call("f", name("a"))))], ("zero", [log(num(7)), back(name("s"))]),
                       ("oops", [put("s", num(100))]))), back(name("s"))),
            fun("f", [("a", NUM)], NUM, log(name("a")), choice(two("=", name("a"), num(1)), [fails("oops")]),
                back(two("/", num(12), name("a"))))))
        code = lowered(typed(program))
        behind = self.comes(code)
        for given in [0, 1, 2, 5]:
            self.runs_alike(code, behind, [given], range(12))
        self.stays(behind)


class WhichCall(Putting):
    def wide(self, count):
        """A function of so many rows and ends."""
        return made([NUM], NUM, Block([0], [noted(n(0))] * (count - 1), Back(n(0))))

    def chosen(self, code):
        self.comes(code)
        told = PutIn().tried(code)
        return told and told[1][:2]

    def test_the_bound_of_12(self):
        for count, wanted in [(1, ("main", 0)), (11, ("main", 0)), (12, ("main", 0)), (13, None), (14, None)]:
            self.assertEqual(self.chosen(calling().with_function("f", self.wide(count))), wanted)
        # Rows and ends of several blocks are counted, logs and ticks among them.
        f = [Block([0], [TICK] * 5, Jump((1, ()))), Block([], [noted(n(0))] * 3, Jump((2, ())))]
        self.assertEqual(self.chosen(calling(*f, Block([], [neg(1, n(0))], Back(n(1))))), ("main", 0))
        self.assertIsNone(self.chosen(calling(*f, Block([], [neg(1, n(0)), TICK], Back(n(1))))))

    def test_the_bound_of_300(self):
        for inner in [1, 5, 12]:
            for whole_width, wanted in [(299 - inner, ("main", 0)), (300 - inner, None), (298 - inner, ("main", 0))]:
                main = made([NUM], NUM, Block([0], [TICK] * (whole_width - 2), Risk("call", "f", [n(0)], (1, ()), [])),
                            Block([2], [], Back(n(2))))
                self.assertEqual(main.width(), whole_width)
                self.assertEqual(self.chosen(Code({"main": main, "f": self.wide(inner)})), wanted)

    def test_a_smaller_one_still_has_room(self):
        # Of two calls the first one is of a function that is too wide for what is left.
        main = made([NUM], NUM, Block([0], [TICK] * 290, Risk("call", "f", [n(0)], (1, ()), [])),
                    Block([1], [], Risk("call", "g", [n(1)], (2, ()), [])), Block([2], [], Back(n(2))))
        for f, g, wanted in [(7, 6, ("main", 1)), (6, 7, ("main", 0)), (7, 7, None), (6, 6, ("main", 0))]:
            self.assertEqual(self.chosen(Code({"main": main, "f": self.wide(f), "g": self.wide(g)})), wanted)

    def test_functions_that_call(self):
        # Itself, another one, or main: each has a call in it.
        for called in ["f", "g", "main"]:
            asked = [n(0), NO] if called == "main" else [n(0)]
            code = calling(Block([0], [], Risk("call", called, asked, (1, ()), [])), Block([1], [], Back(n(1))),
                           g=self.wide(13))
            self.assertIsNone(self.chosen(code))
        code = calling(Block([0], [], Risk("call", "g", [n(0)], (1, ()), [])), Block([1], [], Back(n(1))),
                       g=self.wide(12))
        self.assertEqual(self.chosen(code), ("f", 0))
        # A risk of another operation is no call.
        code = calling(Block([0], [], Risk("mul", None, [n(0), n(0)], (1, ()), [])), Block([1], [], Back(n(1))))
        self.assertEqual(self.chosen(code), ("main", 0))

    def test_main(self):
        # Main is never put in, though it has no call.
        f = made([NUM], NUM, Block([0], [], Risk("call", "main", [n(0)], (1, ()), [])), Block([1], [], Back(n(1))))
        self.assertIsNone(self.chosen(Code({"main": self.wide(2), "f": f})))

    def test_by_names_of_functions_and_then_by_blocks(self):
        def caller(*texts):
            blocks = [Block([place], [], Risk("call", text, [n(place)], (place + 1, ()), []))
                      for place, text in enumerate(texts)]
            return made([NUM], NUM, *blocks, Block([len(texts)], [], Back(n(len(texts)))))
        small, great = self.wide(2), self.wide(20)
        for functions, wanted in [
            ({"main": caller("f"), "a": caller("f"), "f": small}, ("a", 0)),
            ({"main": caller("f"), "z": caller("f"), "f": small}, ("main", 0)),
            ({"main": caller("f", "f"), "f": small}, ("main", 0)),
            ({"main": caller("g", "f"), "f": small, "g": great}, ("main", 1)),
            ({"main": caller("g", "g", "f", "f"), "f": small, "g": great}, ("main", 2)),
            ({"main": caller("f"), "a": caller("g"), "f": small, "g": great}, ("main", 0)),
            ({"main": caller("z", "b"), "b": small, "z": small}, ("main", 0)),
            ({"main": caller("a"), "a": caller("b"), "b": caller("c"), "c": small}, ("b", 0)),
            ({"main": small}, None), ({"main": small, "f": small}, None),
            ({"main": small, "a": caller("f"), "f": small}, ("a", 0)),
        ]:
            self.assertEqual(self.chosen(Code(functions)), wanted)

    def test_blocks_by_their_numbers(self):
        # The call in block 1 is come to behind that in 2.
        main = made([NUM], NUM, Block([0], [], Jump((2, ()))), Block([1], [], Risk("call", "f", [n(1)], (3, ()), [])),
                    Block([], [], Risk("call", "f", [n(0)], (1, ()), [])), Block([3], [], Back(n(3))))
        self.assertEqual(self.chosen(Code({"main": main, "f": self.wide(1)})), ("main", 1))

    def test_nothing_to_put_in(self):
        for code in [single([], Back(num(1))), single([neg(1, n(0))], Back(n(1)), [NUM])]:
            self.stays(code)
        # A function that calls but itself.
        self.stays(Code({"main": made([], NUM, Block([], [], Risk("call", "main", [], (1, ()), [])),
                                      Block([0], [], Back(n(0))))}))


class Papers(Putting):
    CODE = calling(Block([0], [neg(1, n(0))], Branch(YES, (1, (n(1),)), (2, ()))), Block([2], [], Back(n(2))),
                   Block([], [], Raise("oops")),
                   end=Risk("call", "f", [n(0)], (1, ()), [("oops", (1, (num(5),)))]),
                   g=made([NUM], NUM, BACK))
    PAPER = ("main", 0, {0: 4, 1: 5, 2: 6}, {0: 2, 1: 3, 2: 4})

    def test_its_own(self):
        self.assertEqual(settled(PutIn().tried(self.CODE)[1]), settled(self.PAPER))
        self.lets_by(self.CODE, self.PAPER, PutIn().tried(self.CODE)[0])

    def test_other_names(self):
        for names in [{0: 5, 1: 4, 2: 6}, {0: 999999, 1: 7, 2: 1000000}, {2: 10 ** 6, 1: 55, 0: 54}]:
            behind = self.lets_by(self.CODE, self.PAPER[:2] + (names, self.PAPER[3]))
            self.runs_alike(self.CODE, behind, [3, True])
            self.assertEqual(sorted(behind.functions["main"].kinds), sorted([0, 1, 2, 3] + list(names.values())))
        # Names that the inner function has itself, in whatever order, are free if the function hasn't them.
        code = Code({"main": made([NUM], NUM, Block([10], [], Risk("call", "f", [n(10)], (1, ()), [])),
                                  Block([11], [], Back(n(11)))), "f": made([NUM], NUM, BACK)})
        for names in [{0: 0, 1: 1}, {0: 1, 1: 0}, {0: 12, 1: 0}]:
            self.runs_alike(code, self.lets_by(code, ("main", 0, names, {0: 2})), [4])

    def test_other_numbers(self):
        for numbers in [{0: 2, 1: 4, 2: 3}, {0: 4, 1: 3, 2: 2}, {2: 2, 0: 3, 1: 4}, {0: 3, 1: 2, 2: 4}]:
            behind = self.lets_by(self.CODE, self.PAPER[:3] + (numbers,))
            self.assertEqual(behind.functions["main"].blocks[0].end.told(), ("jump", (numbers[0], (n(0),))))
            self.runs_alike(self.CODE, behind, [3, True])

    def test_closed_up_behind_whatever_numbers(self):
        # Block 1 of main is come to no more, so the others are numbered anew.
        code = calling(Block([0], [], Jump((1, ()))), Block([], [], Raise("a")))
        for numbers, wanted in [({0: 2, 1: 3}, (1, 2)), ({0: 3, 1: 2}, (2, 1))]:
            behind = self.lets_by(code, ("main", 0, {0: 9}, numbers))
            blocks = behind.functions["main"].blocks
            self.assertEqual(len(blocks), 3)
            self.assertEqual(blocks[0].end.told(), ("jump", (wanted[0], (n(0),))))
            self.assertEqual(blocks[wanted[0]].end.told(), ("jump", (wanted[1], ())))
            self.assertEqual(sorted(behind.functions["main"].kinds), [0, 1, 9])

    def test_any_inner_function(self):
        # Main within f, f within itself, and a wide one: whatever the rewriting would choose.
        f = made([NUM], NUM, Block([0], [noted(n(0)), Row(1, "less", None, [n(0), num(1)])],
                                   Branch(n(1), (1, ()), (2, ()))), Block([], [], Back(n(0))),
                 Block([], [Row(2, "sub", None, [n(0), num(1)])], Risk("call", "f", [n(2)], (3, ()),
                                                                       [("a", (1, ()))])),
                 Block([3], [], Risk("call", "main", [n(3), NO], (4, (n(3),)), [])), Block([4, 5], [], Back(n(4))),
                 n1=TRUTH)
        main = made([NUM, TRUTH], NUM, Block([0, 1], [TICK] * 20, Branch(n(1), (1, ()), (2, ()))),
                    Block([], [], Risk("call", "f", [n(0)], (3, ()), [])), Block([], [], Back(num(2))),
                    Block([3], [], Back(n(3))), n1=TRUTH)
        code = Code({"main": main, "f": f})
        names = {one: one + 50 for one in range(6)}
        for paper in [("f", 2, names, {place: 5 + place for place in range(5)}),
                      ("f", 3, {0: 50, 1: 51, 3: 53}, {0: 8, 1: 7, 2: 6, 3: 5}),
                      ("main", 1, names, {0: 4, 1: 8, 2: 5, 3: 7, 4: 6})]:
            behind = self.lets_by(code, paper)
            for inputs in [[0, True], [2, True], [3, False]]:
                self.runs_alike(code, behind, inputs, [0, 1, 19, 20, 21, 22, 23, 40, 45, 60, 100, 300])

    def test_a_call_behind_the_first_one(self):
        code = calling(BACK, end=Risk("call", "f", [n(0)], (2, ()), []),
                       more=[Block([4], [], Risk("call", "f", [n(4)], (1, ()), []))])
        behind = self.lets_by(code, ("main", 2, {0: 5, 1: 6}, {0: 3}))
        self.runs_alike(code, behind, [4, True])
        self.assertEqual(behind.functions["main"].blocks[0].end.told(), code.functions["main"].blocks[0].end.told())

    def test_papers_that_are_none(self):
        behind = PutIn().tried(self.CODE)[0]
        text, number, names, numbers = self.PAPER
        amiss = [
            ("f", 0, names, numbers), ("g", 0, names, numbers), ("h", 0, names, numbers), ("", 0, names, numbers),
            (None, 0, names, numbers), (["main"], 0, names, numbers), (("main",), 0, names, numbers),
            ({"main": 1}, 0, names, numbers), (0, 0, names, numbers),
            (text, 1, names, numbers), (text, 2, names, numbers), (text, -1, names, numbers),
            (text, -2, names, numbers),
            (text, False, names, numbers), (text, "0", names, numbers), (text, None, names, numbers),
            (text, (0,), names, numbers), (text, [0], names, numbers), (text, 10 ** 59, names, numbers),
            (text, 0, {}, numbers), (text, 0, {0: 4, 1: 5}, numbers), (text, 0, {**names, 3: 7}, numbers),
            (text, 0, {0: 4, 1: 5, 3: 6}, numbers), (text, 0, {0: 4, 1: 5, 2: 5}, numbers),
            (text, 0, {0: 4, 1: 5, 2: 3}, numbers), (text, 0, {0: 4, 1: 5, 2: 0}, numbers),
            (text, 0, {0: 4, 1: 5, 2: -1}, numbers), (text, 0, {0: 4, 1: 5, 2: True}, numbers),
            (text, 0, {0: 4, 1: 5, 2: "6"}, numbers), (text, 0, {0: 4, 1: 5, 2: None}, numbers),
            (text, 0, {0: 4, 1: 5, 2: [6]}, numbers), (text, 0, {0: 4, 1: 5, 2: n(6)}, numbers),
            (text, 0, {0: 4, True: 5, 2: 6}, numbers), (text, 0, {False: 4, 1: 5, 2: 6}, numbers),
            (text, 0, {"0": 4, 1: 5, 2: 6}, numbers), (text, 0, {0: 4, 1: 5, n(2): 6}, numbers),
            (text, 0, {0: 4, 1: 5, None: 6}, numbers), (text, 0, [4, 5, 6], numbers), (text, 0, (4, 5, 6), numbers),
            (text, 0, [(0, 4), (1, 5), (2, 6)], numbers), (text, 0, None, numbers), (text, 0, "456", numbers),
            (text, 0, names, {}), (text, 0, names, {0: 2, 1: 3}), (text, 0, names, {**numbers, 3: 5}),
            (text, 0, names, {0: 2, 1: 3, 3: 4}), (text, 0, names, {0: 2, 1: 3, 2: 3}),
            (text, 0, names, {0: 2, 1: 3, 2: 5}), (text, 0, names, {0: 1, 1: 2, 2: 3}),
            (text, 0, names, {0: 3, 1: 4, 2: 5}), (text, 0, names, {0: 2, 1: 3, 2: -4}),
            (text, 0, names, {0: 2, 1: 3, 2: "4"}), (text, 0, names, {0: 2, 1: 3, 2: None}),
            (text, 0, names, {0: 2, 1: 3, 2: [4]}), (text, 0, names, {0: 2, True: 3, 2: 4}),
            (text, 0, names, {False: 2, 1: 3, 2: 4}), (text, 0, names, {"0": 2, 1: 3, 2: 4}),
            (text, 0, names, [2, 3, 4]), (text, 0, names, (2, 3, 4)), (text, 0, names, None),
            (text, 0, names), (text, 0, names, numbers, numbers), (text, 0, numbers, names), (0, text, names, numbers),
            [text, 0, names, numbers], {0: text, 1: 0, 2: names, 3: numbers}, (self.PAPER,), [self.PAPER], None, "",
            (), same_paper(self.CODE), ("main", [0], [4]),
        ]
        self.assertTrue(PutIn().holds(self.CODE, behind, self.PAPER))
        for paper in amiss:
            self.assertFalse(is_paper_by_hand(self.CODE.told(), paper))
            self.assertIs(PutIn().holds(self.CODE, behind, paper), False, paper)
            self.assertIs(PutIn().holds(self.CODE, self.CODE, paper), False, paper)

    def test_what_would_come_all_the_same(self):
        # By a name below 0 a form would come that is well made; by one of the function's own not even that.
        for names, fit in [({0: 4, 1: 5, 2: -1}, True), ({0: 4, 1: 5, 2: 3}, False)]:
            paper = self.PAPER[:2] + (names, self.PAPER[3])
            behind = code_of(put_by_hand(self.CODE.told(), paper))
            self.assertIs(is_fit(behind), fit)
            self.assertIs(PutIn().holds(self.CODE, behind, paper), False)

    def test_a_truth_for_a_number(self):
        main = made([NUM], NUM, Block([0], [], Jump((1, ()))), Block([], [], Risk("call", "f", [n(0)], (2, ()), [])),
                    Block([2], [], Back(n(2))))
        code = Code({"main": main, "f": made([NUM], NUM, BACK)})
        behind = self.lets_by(code, ("main", 1, {0: 5, 1: 6}, {0: 3}))
        for paper in [("main", True, {0: 5, 1: 6}, {0: 3}), ("main", 1, {0: 5, 1: 6}, {False: 3}),
                      ("main", 1, {0: 5, True: 6}, {0: 3}), ("main", 1, {0: 5, 1: True}, {0: 3})]:
            self.assertIs(PutIn().holds(code, behind, paper), False)
        # 1 is free here; so it is asked whether True would be taken for it.
        behind = self.lets_by(code, ("main", 1, {0: 5, 1: 1}, {0: 3}))
        self.assertIs(PutIn().holds(code, behind, ("main", 1, {0: 5, 1: True}, {0: 3})), False)

    def test_any_thing(self):
        behind = PutIn().tried(self.CODE)[0]
        for thing in things():
            for paper in [thing, (thing,) + self.PAPER[1:], ("main", thing) + self.PAPER[2:],
                          self.PAPER[:2] + (thing, self.PAPER[3]), self.PAPER[:3] + (thing,)]:
                wanted = settled(paper) == settled(self.PAPER)
                self.assertIs(PutIn().holds(self.CODE, behind, paper), wanted, paper)

    def test_forms_behind_that_are_another(self):
        behind = PutIn().tried(self.CODE)[0]
        main, f = behind.functions["main"], behind.functions["f"]
        rows = main.blocks[0].rows
        others = [
            self.CODE, behind.with_function("h", f), Code({"main": main, "f": f}),
            behind.with_function("f", made([NUM], NUM, BACK)), behind.with_function("g", f),
            behind.with_function("main", changed_block(main, 0, rows=rows[:-1])),
            behind.with_function("main", changed_block(main, 0, rows=rows + (TICK,))),
            behind.with_function("main", changed_block(main, 0, rows=rows[::-1])),
            behind.with_function("main", changed_block(main, 0, Jump((2, (num(0),))))),
            behind.with_function("main", changed_block(main, 1, Back(n(2)))),
            code_of(put_by_hand(self.CODE.told(), self.PAPER[:3] + ({0: 2, 1: 4, 2: 3},))),
            code_of(put_by_hand(self.CODE.told(), self.PAPER[:2] + ({0: 4, 1: 6, 2: 5}, self.PAPER[3]))),
        ]
        for other in others:
            self.assertIs(PutIn().holds(self.CODE, other, self.PAPER), False)
        # Told in another form of the same: kinds in another order, lists for tuples.
        again = Function([NUM, TRUTH], NUM, dict(reversed(list(main.kinds.items()))), list(main.blocks))
        self.assertIs(PutIn().holds(self.CODE, behind.with_function("main", again), self.PAPER), True)

    def test_numbers_and_truths_behind(self):
        # 1 and True are told apart, in constants and in extras.
        f = made([NUM], NUM, Block([0], [Row(1, "make", WIDE, [num(1), num(0)]), Row(2, "get", 1, [n(1)])],
                                   Back(num(1))), n1=WIDE)
        code = calling().with_function("f", f)
        behind, paper = PutIn().tried(code)
        self.assertTrue(PutIn().holds(code, behind, paper))
        told = behind.told()
        for one, other in [("('num', 1)", "('num', True)"), ("('num', 0)", "('num', False)"),
                           ("'get', 1", "'get', True")]:
            text = shown(told)
            self.assertIn(one, text)
            self.assertIs(PutIn().holds(code, code_of(eval(text.replace(one, other))), paper), False)

    def test_forms_ahead_that_are_not_well_made(self):
        behind = PutIn().tried(self.CODE)[0]
        main = self.CODE.functions["main"]
        for ahead in [
            self.CODE.with_function("main", changed_block(main, 1, Back(n(9)))),
            self.CODE.with_function("g", made([NUM], TRUTH, BACK)), Code({"f": self.CODE.functions["f"]}),
            self.CODE.with_function("main", changed_block(main, 0, Risk("call", "h", [n(0)], (1, ()), []))),
            self.CODE.with_function("main", changed_block(main, 0, Risk("call", "f", [n(1)], (1, ()), []))),
            self.CODE.with_function("main", Function((), NUM, {}, [])), Code({}),
        ]:
            self.assertFalse(is_fit(ahead))
            self.assertIs(PutIn().holds(ahead, behind, self.PAPER), False)
        # What would come of such a one, where it is amiss in another function.
        ahead = self.CODE.with_function("g", made([NUM], TRUTH, BACK))
        behind = code_of(put_by_hand(ahead.told(), self.PAPER))
        self.assertIs(PutIn().holds(ahead, behind, self.PAPER), False)


def changed_block(function, number, end=None, rows=None):
    blocks = list(function.blocks)
    block = blocks[number]
    blocks[number] = Block(block.params, block.rows if rows is None else rows, end or block.end)
    return Function(function.takes, function.gives, function.kinds, blocks)


class ByChance(Putting):
    def test_of_programs(self):
        self.assertGreater(self.changes_of_sown(500), 100)

    def test_of_drawn_codes(self):
        self.assertGreater(self.changes_of_drawn(500, calls=0.7), 40)

    def test_again_and_again(self):
        for seed in range(60):
            code = sown_code(Sower(seed, size=90))
            while code is not None:
                code = self.comes(code)

    def test_papers_of_all_sorts(self):
        # Whatever call is put in, with whatever names and numbers: what is let by does the same.
        held = 0
        for seed in range(400):
            chance, drawer = Random(seed), Drawer(seed, calls=0.8)
            code = drawer.code()
            paper = some_paper(code.told(), chance)
            if paper is not None:
                held += 1
                behind = self.lets_by(code, paper)
                for time in range(2):
                    self.runs_alike(code, behind, drawer.inputs())
        self.assertGreater(held, 150)

    def test_papers_of_programs(self):
        held = 0
        for seed in range(250):
            chance, sower = Random(seed), Sower(seed, size=60)
            code = sown_code(sower)
            paper = some_paper(code.told(), chance)
            if paper is not None:
                held += 1
                behind = self.lets_by(code, paper)
                takes = next(head[1] for head in sower.heads if head[0] == "main")
                self.runs_alike(code, behind, [sower.value(kind) for text, kind in takes])
        self.assertGreater(held, 100)

    def test_papers_put_otherwise(self):
        # Let by is just what is a paper, with what comes by it.
        others = [0, 1, 2, 3, 4, 5, 6, 7, 8, -1, True, False, None, "main", "f", "", (), [], {}, {0: 1}, n(4), 700]
        held, papers = 0, 0
        for seed in range(3000):
            chance = Random(seed)
            code = Papers.CODE if seed % 2 else Drawer(seed % 40, calls=0.8).code()
            paper = some_paper(code.told(), chance)
            if paper is None:
                continue
            behind = code_of(put_by_hand(code.told(), paper))
            other = otherwise(paper, chance, others)
            wanted = is_paper_by_hand(code.told(), other)
            papers += wanted
            wanted = wanted and put_by_hand(code.told(), other) == behind.told()
            held += wanted
            self.assertIs(PutIn().holds(code, behind, other), wanted, (code.told(), paper, other))
            if is_paper_by_hand(code.told(), other):
                self.lets_by(code, other)
        self.assertGreater(papers, 60)
        self.assertGreater(held, 5)

    def test_forms_behind_put_otherwise(self):
        # One thing in the form behind is another one: never is that let by.
        others = [0, 1, 2, 3, 4, 5, 6, True, False, None, "add", "tick", n(0), num(1), YES, 999]
        for seed in range(800):
            chance = Random(seed)
            code = Papers.CODE if seed % 2 else Drawer(seed % 40, calls=0.8).code()
            paper = some_paper(code.told(), chance)
            if paper is None:
                continue
            told = put_by_hand(code.told(), paper)
            text = chance.choice([one for one, function in told])
            function = dict(told)[text]
            number = chance.randrange(len(function[3]))
            params, rows, end = function[3][number]
            sort = chance.randrange(3)
            if sort == 0 and rows:
                place = chance.randrange(len(rows))
                row = list(rows[place])
                row[chance.choice([0, 1, 2])] = chance.choice([1, 2, None, "add", "tick", 999])
                rows = rows[:place] + (tuple(row),) + rows[place + 1:]
            elif sort == 1:
                end = put_end(end, lambda edge, handed: (chance.choice([edge[0], 1, 2]), edge[1]),
                              lambda operand: chance.choice([operand, n(0), num(1), num(True), YES]))
            else:
                params = params[:-1] if params and chance.random() < 0.5 else params + (chance.choice(others[:7]),)
            blocks = function[3][:number] + ((params, rows, end),) + function[3][number + 1:]
            other = tuple((one, function[:3] + (blocks,) if one == text else held) for one, held in told)
            wanted = shown(other) == shown(told)
            self.assertIs(PutIn().holds(code, code_of(other), paper), wanted)


if __name__ == "__main__":
    unittest.main()
