"""Points 4, 6, 110 and 114 to 117: last calls."""

import unittest
from random import Random

from eachstepsame.blockrun import run_blocks
from eachstepsame.blocks import Back, Block, Branch, Code, Function, Jump, Raise, Risk, Row
from eachstepsame.fits import closed_up, is_fit, need_fit, ways_of
from eachstepsame.lastcalls import LastCalls
from eachstepsame.lowering import lowered
from eachstepsame.passes import measure
from eachstepsame.rewriting import same_paper
from eachstepsame.typer import typed
from tests.helper import (
    FLAG, NO, NUM, TICK, TRUTH, WIDE, YES, Drawer, Sower, Tried, add, back, call, choice, code_of, fun, given_at, let,
    log, made, n, name, neg, noted, num, otherwise, sample_code, shown, shut, single, sown_code, things,
    trying, two,
)

LAST = Block([8], [], Back(n(8)))


def last_by_hand(text, function):
    """A second reading of 114: the numbers of the last calls of a function that tells this."""
    found = []
    for number, (params, rows, end) in enumerate(function[3]):
        if end[0] == "risk" and end[1:3] == ("call", text) and end[5] == ():
            params, rows, end = function[3][end[4][0]]
            if rows == () and end == ("back", n(params[0])):
                found.append(number)
    return found


def turned_by_hand(told, paper):
    """A second reading of 115."""
    text, numbers, names = paper
    takes, gives, kinds, blocks = dict(told)[text]
    count, begun = len(blocks), []
    for number, (params, rows, end) in enumerate(blocks):
        if number in numbers:
            rows, end = rows + ((None, "tick", None, ()),), ("jump", (count, end[3]))
        begun.append((params, rows, end))
    begin = (tuple(names), (), ("jump", (count, tuple(n(one) for one in names))))
    kinds = tuple(sorted(kinds + tuple(zip(names, takes))))
    whole = (takes, gives, kinds, tuple([begin] + begun[1:] + begun[:1]))
    return tuple((one, shut(whole)[0] if one == text else function) for one, function in told)


def paper_by_hand(told):
    """A second reading of 116; None where there is no last call."""
    for text, function in told:
        numbers = last_by_hand(text, function)
        if numbers:
            begin = max(one for one, kind in function[2]) + 1
            return (text, numbers, [begin + place for place in range(len(function[0]))])
    return None


def is_paper_by_hand(told, thing):
    """A second reading of the papers of 114."""
    functions = dict(told)
    if thing.__class__ is not tuple or len(thing) != 3 or thing[0].__class__ is not str or thing[0] not in functions:
        return False
    text, numbers, names = thing
    function = functions[text]
    for some in [numbers, names]:
        if some.__class__ is not list or {one.__class__ for one in some} - {int} or len(set(some)) < len(some):
            return False
    if numbers != sorted(numbers) or not numbers or set(numbers) - set(last_by_hand(text, function)):
        return False
    return len(names) == len(function[0]) and not [one for one in names if one < 0 or one in dict(function[2])]


def some_paper(told, chance):
    """A paper for some of the last calls of some function; None where there is none."""
    some = [text for text, function in told if last_by_hand(text, function)]
    if not some:
        return None
    text = chance.choice(some)
    function = dict(told)[text]
    numbers = last_by_hand(text, function)
    free = [one for one in range(2000) if one not in dict(function[2])]
    return (text, sorted(chance.sample(numbers, chance.randrange(1, len(numbers) + 1))),
            chance.sample(free, len(function[0])))


def with_last_calls(code, seed):
    """The code with last calls, and calls that are nearly such, in the place of some ends."""
    chance = Random(seed)
    for text in code.names():
        function = code.functions[text]
        fresh = max(function.kinds, default=0) + 1
        count = len(function.blocks)
        kinds = {**function.kinds, fresh: function.gives, fresh + 1: function.gives, fresh + 2: NUM}
        blocks = list(function.blocks) + [Block([fresh], [], Back(n(fresh))),
                                          Block([fresh + 1, fresh + 2], [], Back(n(fresh + 1)))]
        constants = {NUM: [num(0), num(1)], TRUTH: [YES, NO]}
        for number in range(count):
            some = [given_at(function, number, kind) + constants.get(kind, []) for kind in function.takes]
            if chance.random() < 0.5 and all(some):
                asked = [chance.choice(operands) for operands in some]
                edge = chance.choice([(count, ()), (count + 1, (num(4),))])
                caught = [("oops", (count, (asked[0],)))] if asked and function.takes[0] == function.gives else []
                end = Risk("call", text, asked, edge, caught if chance.random() < 0.1 else [])
                if isinstance(blocks[number].end, Branch) and chance.random() < 0.5:
                    continue
                blocks[number] = Block(blocks[number].params, blocks[number].rows, end)
        code = code.with_function(text, closed_up(Function(function.takes, function.gives, kinds, blocks))[0])
    return code


class Turning(Tried):
    rewriting, at_once = LastCalls, False

    def all_wanted(self, code):
        paper = paper_by_hand(code.told())
        return None if paper is None else (turned_by_hand(code.told(), paper), paper)

    def comes(self, code):
        behind = Tried.comes(self, code)
        if behind is not None:
            self.assertLess(measure(behind)[0], measure(code)[0])
            paper = LastCalls().tried(code)[1]
            self.assertTrue(is_paper_by_hand(code.told(), paper))
            self.assertEqual(last_by_hand(paper[0], dict(behind.told())[paper[0]]), [])
        return behind

    def lets_by(self, ahead, paper):
        need_fit(ahead)
        kept = shown((ahead.told(), paper))
        behind = code_of(turned_by_hand(ahead.told(), paper))
        need_fit(behind)
        self.assertIs(LastCalls().holds(ahead, behind, paper), True)
        self.assertIs(LastCalls().holds(ahead, ahead, paper), False)
        self.assertEqual(shown((ahead.told(), paper)), kept)
        return behind

    def runs(self, ahead, behind):
        for inputs in [[0, 5], [1, 5], [3, 0], [7, 10 ** 20]]:
            self.runs_alike(ahead, behind, inputs, range(10))


def counting(end=None, **parts):
    """Main takes a, b: where a is less than 1 it gives b; else it is the same with a - 1 and b + a."""
    end = end or Risk("call", "main", [n(3), n(4)], (3, ()), [])
    return Code({"main": made([NUM, NUM], NUM, Block([0, 1], [Row(2, "less", None, [n(0), num(1)])],
                                                     Branch(n(2), (1, ()), (2, ()))),
                              Block([], [], Back(n(1))),
                              Block([], [noted(n(0)), Row(3, "sub", None, [n(0), num(1)]), add(4, n(1), n(0))], end),
                              parts.get("last", LAST), *parts.get("more", []), n2=TRUTH, **parts.get("kinds", {}))})


class WhatComes(Turning):
    def test_title(self):
        self.assertEqual(LastCalls().known_as(), "lastcalls")

    def test_by_hand(self):
        code = counting()
        behind, paper = LastCalls().tried(code)
        self.assertEqual(shown(paper), shown(("main", [2], [9, 10])))
        self.assertEqual(shown(behind.told()), shown(Code({"main": made(
            [NUM, NUM], NUM, Block([9, 10], [], Jump((3, (n(9), n(10))))), Block([], [], Back(n(1))),
            Block([], [noted(n(0)), Row(3, "sub", None, [n(0), num(1)]), add(4, n(1), n(0)), TICK],
                  Jump((3, (n(3), n(4))))),
            Block([0, 1], [Row(2, "less", None, [n(0), num(1)])], Branch(n(2), (1, ()), (2, ()))),
            n2=TRUTH)}).told()))
        self.becomes(code, behind)
        self.stays(behind)
        self.runs(code, behind)

    def test_several(self):
        second = [Block([], [], Risk("call", "main", [n(0), num(2)], (3, ()), [])),
                  Block([], [noted(n(1))], Risk("call", "main", [num(0), n(1)], (3, ()), []))]
        code = counting(Risk("div", None, [num(5), n(1)], (6, ()), [("zero", (5, ()))]), more=second + [
            Block([9], [Row(10, "less", None, [n(9), num(2)])], Branch(n(10), (4, ()), (7, ()))),
            Block([], [], Risk("call", "main", [n(3), n(9)], (3, ()), []))], kinds={"n10": TRUTH})
        behind = self.comes(code)
        self.assertEqual(shown(LastCalls().tried(code)[1]), shown(("main", [4, 5, 7], [11, 12])))
        self.runs(code, behind)
        # All of them jump to the old block 0, which stands behind the rest; the block of the back is come to no more.
        blocks = behind.functions["main"].blocks
        self.assertEqual([blocks[number].end.told() for number in [3, 4, 6]], [
            ("jump", (7, (n(0), num(2)))), ("jump", (7, (num(0), n(1)))), ("jump", (7, (n(3), n(9))))])

    def test_the_block_of_the_back_is_still_come_to(self):
        end = Risk("mul", None, [n(3), n(4)], (3, ()), [("great", (4, ()))])
        code = counting(end, more=[Block([], [], Risk("call", "main", [n(3), n(1)], (3, ()), []))])
        behind = self.comes(code)
        self.assertEqual(behind.functions["main"].blocks[3].told(), LAST.told())
        self.runs(code, behind)
        self.runs_alike(code, behind, [5, 10 ** 49], range(8))

    def test_the_old_block_0(self):
        # It never ends but by its budget.
        code = Code({"main": made([NUM], NUM, Block([0], [noted(n(0)), add(1, n(0), num(1))],
                                                    Risk("call", "main", [n(1)], (1, ()), [])), LAST)})
        behind = self.comes(code)
        self.assertEqual(shown(LastCalls().tried(code)[1]), shown(("main", [0], [9])))
        self.assertEqual([block.told() for block in behind.functions["main"].blocks], [
            ((9,), (), ("jump", (1, (n(9),)))),
            ((0,), ((None, "log", None, (n(0),)), (1, "add", None, (n(0), num(1))), (None, "tick", None, ())),
             ("jump", (1, (n(1),))))])
        self.assertEqual(run_blocks(behind, [3], 2).seen(), ("dry", None, (num(3), num(4), num(5)), 2))
        self.runs_alike(code, behind, [3], range(6))

    def test_one_that_main_calls(self):
        main = made([NUM], NUM, Block([0], [], Risk("call", "f", [n(0), YES], (1, ()), [])), Block([1], [], Back(n(1))))
        f = made([NUM, TRUTH], NUM, Block([0, 1], [], Branch(n(1), (1, ()), (2, ()))),
                 Block([], [noted(n(0))], Risk("call", "f", [n(0), NO], (3, ()), [])), Block([], [], Back(n(0))),
                 LAST, n1=TRUTH)
        code = Code({"main": main, "f": f})
        behind = self.comes(code)
        self.assertEqual(LastCalls().tried(code)[1], ("f", [1], [9, 10]))
        for given in [0, 4]:
            self.runs_alike(code, behind, [given], range(5))
        self.assertEqual(behind.functions["f"].kinds, {0: NUM, 1: TRUTH, 9: NUM, 10: TRUTH})

    def test_one_that_takes_nothing(self):
        code = Code({"main": made([], NUM, Block([], [noted(YES)], Risk("call", "main", [], (1, ()), [])), LAST)})
        behind = self.comes(code)
        self.assertEqual(shown(LastCalls().tried(code)[1]), shown(("main", [0], [])))
        self.assertEqual([block.told() for block in behind.functions["main"].blocks], [
            ((), (), ("jump", (1, ()))), ((), ((None, "log", None, (YES,)), (None, "tick", None, ())),
                                          ("jump", (1, ())))])
        self.runs_alike(code, behind, [], range(5))

    def test_kinds_of_all_sorts(self):
        last = Block([8], [], Back(n(8)))
        main = made([FLAG, WIDE], FLAG, Block([0, 1], [Row(2, "get", 0, [n(0)]), Row(3, "put", 0, [n(0), NO])],
                                              Branch(n(2), (1, ()), (2, ()))),
                    Block([], [], Risk("call", "main", [n(3), n(1)], (3, ()), [])), Block([], [], Back(n(0))), last,
                    n0=FLAG, n1=WIDE, n2=TRUTH, n3=FLAG, n8=FLAG)
        code = Code({"main": main})
        behind = self.comes(code)
        self.assertEqual(behind.functions["main"].kinds[9], FLAG)
        self.assertEqual(behind.functions["main"].kinds[10], WIDE)
        for given in [True, False]:
            self.runs_alike(code, behind, [(given, 2), (3, 4)])

    def test_all_other_functions_stay(self):
        f = counting().functions["main"]
        code = Code({"main": single([], Back(n(0)), [NUM, NUM]).functions["main"], "h": made(
            [NUM, NUM], NUM, Block([0, 1], [], Risk("call", "h", [n(0), n(1)], (1, ()), [])), LAST), "z": made(
            [NUM, NUM], NUM, Block([0, 1], [], Risk("call", "z", [n(0), n(1)], (1, ()), [])), LAST), "b": f})
        behind = self.comes(code)
        self.assertIsNot(behind.functions["b"].kinds, code.functions["b"].kinds)
        # One after the other, by their names: b calls main, which is another one; so h is the first.
        self.assertEqual(LastCalls().tried(code)[1][0], "h")
        for text in ["b", "main", "z"]:
            self.assertEqual(behind.functions[text].told(), code.functions[text].told())
        self.assertEqual(LastCalls().tried(behind)[1][0], "z")
        self.stays(self.comes(behind))

    def test_deep_calls(self):
        program = ((), (
            fun("main", [("a", NUM)], NUM, back(call("f", name("a"), num(0)))),
            fun("f", [("a", NUM), ("s", NUM)], NUM, choice(two("<", name("a"), num(1)), [back(name("s"))]),
                back(call("f", two("-", name("a"), num(1)), two("+", name("s"), name("a")))))))
        code = lowered(typed(program))
        behind = self.comes(code)
        for inputs, budget in [([9998], 10000), ([9999], 10000), ([10 ** 30], 10000), ([50], 20), ([0], 1), ([0], 0)]:
            self.runs_alike(code, behind, inputs, [budget])
        self.assertEqual(run_blocks(behind, [9999], 10000).seen(), ("answer", num(49995000), (), 10000))
        self.assertEqual(run_blocks(behind, [10000], 10000).ending, "dry")

    def test_a_program(self):
        program = ((), (fun(
            "main", [("a", NUM), ("b", NUM)], NUM, log(name("a")), let("c", two("mod", name("a"), num(3))),
            choice(two("=", name("c"), num(0)), [back(call("main", two("-", name("a"), num(1)), name("c")))]),
            choice(two("<", name("a"), num(0)), [trying([back(call("main", num(1), num(1)))], ("oops", []))]),
            choice(two("=", name("c"), num(1)), [back(two("+", name("a"), name("b")))]),
            back(call("main", name("b"), two("-", name("a"), num(1))))),))
        code = lowered(typed(program))
        behind = self.comes(code)
        self.assertEqual(len(LastCalls().tried(code)[1][1]), 2)
        for inputs in [[0, 0], [3, 4], [5, 7], [-1, 2], [8, 9]]:
            self.runs_alike(code, behind, inputs, range(9))


class LastOnes(Turning):
    """Which calls are last calls."""

    def test_calls_with_catches(self):
        self.stays(counting(Risk("call", "main", [n(3), n(4)], (3, ()), [("oops", (1, ()))])))
        self.stays(counting(Risk("call", "main", [n(3), n(4)], (3, ()), [("oops", (3, (num(1),)))])))

    def test_a_block_with_rows(self):
        for rows in [[noted(n(8))], [TICK], [neg(9, n(8))]]:
            self.stays(counting(last=Block([8], rows, Back(n(8)))))

    def test_a_back_of_another_one(self):
        edge = (3, (num(4),))
        for given, turned in [(n(8), True), (n(9), False), (n(0), False), (num(8), False)]:
            code = counting(Risk("call", "main", [n(3), n(4)], edge, []), last=Block([8, 9], [], Back(given)))
            if turned:
                self.runs(code, self.comes(code))
            else:
                self.stays(code)
        self.stays(counting(last=Block([8], [], Back(num(3)))))

    def test_a_block_that_does_not_give_back(self):
        self.stays(counting(last=Block([8], [], Raise("oops"))))
        # A jump to such a block is no such block.
        self.stays(counting(last=Block([8], [], Jump((4, (n(8),)))), more=[Block([9], [], Back(n(9)))]))
        self.stays(counting(last=Block([8], [], Branch(YES, (4, (n(8),)), (4, (n(8),)))),
                            more=[Block([9], [], Back(n(9)))]))

    def test_calls_of_other_functions(self):
        f = made([NUM, NUM], NUM, Block([0, 1], [], Back(n(1))))
        self.stays(counting(Risk("call", "f", [n(3), n(4)], (3, ()), [])).with_function("f", f))
        # Two that call one another.
        main = counting(Risk("call", "f", [n(3), n(4)], (3, ()), []))
        self.stays(main.with_function("f", counting().functions["main"]))
        self.assertIsNotNone(self.comes(counting().with_function("f", counting().functions["main"])))

    def test_other_risks(self):
        self.stays(counting(Risk("mul", None, [n(3), n(4)], (3, ()), [])))
        self.stays(sample_code())
        self.stays(single([], Back(num(1))))

    def test_by_names(self):
        main = counting().functions["main"]

        def own(text):
            return made([NUM, NUM], NUM, Block([0, 1], [], Risk("call", text, [n(1), n(0)], (1, ()), [])), LAST)
        for functions, wanted in [
            ({"main": main, "a": own("a"), "z": own("z")}, "a"), ({"main": main, "z": own("z")}, "main"),
            ({"main": own("z"), "z": own("z")}, "z"), ({"main": own("a"), "a": own("main")}, None),
        ]:
            code = Code(functions)
            self.comes(code)
            told = LastCalls().tried(code)
            self.assertEqual(told and told[1][0], wanted)

    def test_names_behind_the_greatest_one(self):
        code = Code({"main": made([NUM, NUM], NUM, Block([500, 2], [neg(70, n(2))],
                                                         Risk("call", "main", [n(70), n(500)], (1, ()), [])),
                                  Block([90], [], Back(n(90))))})
        self.comes(code)
        self.assertEqual(shown(LastCalls().tried(code)[1]), shown(("main", [0], [501, 502])))


class Papers(Turning):
    CODE = counting(Branch(n(2), (4, ()), (5, ())), more=[
        Block([], [], Risk("call", "main", [n(3), n(4)], (3, ()), [])),
        Block([], [], Risk("call", "main", [n(3), n(1)], (3, ()), [])),
    ]).with_function("f", made([NUM], NUM, Block([0], [], Risk("call", "f", [n(0)], (1, ()), [])),
                               Block([1], [], Back(n(1)))))
    PAPER = ("main", [4, 5], [9, 10])

    def test_its_own(self):
        self.assertTrue(is_fit(self.CODE))
        alone = Code({"main": self.CODE.functions["main"]})
        self.assertEqual(shown(LastCalls().tried(alone)[1]), shown(self.PAPER))
        self.lets_by(self.CODE, self.PAPER)

    def test_some_of_them(self):
        for numbers in [[4], [5], [4, 5]]:
            behind = self.lets_by(self.CODE, ("main", numbers, [9, 10]))
            self.runs(self.CODE, behind)
            ends = [block.end.told()[0] for block in behind.functions["main"].blocks]
            self.assertEqual(ends.count("risk"), 2 - len(numbers))

    def test_the_old_block_0(self):
        code = Code({"main": made([NUM], NUM, Block([0], [], Risk("call", "main", [n(0)], (1, ()), [])), LAST)})
        self.runs_alike(code, self.lets_by(code, ("main", [0], [4])), [3])
        # With args, and names in another order.
        main = made([NUM, TRUTH], NUM, Block([0, 1], [], Risk("call", "main", [n(0), n(1)], (1, (n(0),)), [])),
                    Block([2, 3], [], Back(n(2))), n1=TRUTH)
        code = Code({"main": main})
        for names in [[4, 5], [5, 4], [700, 33]]:
            behind = self.lets_by(code, ("main", [0], names))
            self.runs_alike(code, behind, [3, True])
            self.assertEqual(behind.functions["main"].blocks[0].params, tuple(names))

    def test_other_names(self):
        for names in [[10, 9], [5, 6], [6, 7], [1000000, 999999], [7, 11]]:
            behind = self.lets_by(self.CODE, ("main", [4, 5], names))
            self.assertEqual(behind.functions["main"].blocks[0].told(),
                             (tuple(names), (), ("jump", (5, (n(names[0]), n(names[1]))))))
            self.runs(self.CODE, behind)

    def test_another_function_than_the_first_one(self):
        # f is the first one, but a paper may tell of main.
        self.assertEqual(LastCalls().tried(self.CODE)[1][0], "f")
        behind = self.lets_by(self.CODE, self.PAPER)
        self.assertEqual(behind.functions["f"].told(), self.CODE.functions["f"].told())
        self.lets_by(self.CODE, ("f", [0], [2]))

    def test_papers_that_are_none(self):
        behind = code_of(turned_by_hand(self.CODE.told(), self.PAPER))
        text, numbers, names = self.PAPER
        amiss = [
            ("f", numbers, names), ("g", numbers, names), (None, numbers, names), ([text], numbers, names),
            (0, numbers, names), ({}, numbers, names), ("", numbers, names),
            (text, [], names), (text, [5, 4], names), (text, [4, 4], names), (text, [4, 5, 5], names),
            (text, [4], names), (text, [5], names), (text, [3, 4, 5], names), (text, [2, 4, 5], names),
            (text, [0, 4, 5], names), (text, [4, 5, 6], names), (text, [-1, 4, 5], names), (text, [-2, -1], names),
            (text, [True, 4, 5], names), (text, ["4", "5"], names), (text, ["4", 5], names), (text, [4, None], names),
            (text, [4, [5]], names), (text, [(4,), 5], names), (text, (4, 5), names), (text, {4: 5}, names),
            (text, {4: 1, 5: 1}, names), (text, 4, names), (text, None, names), (text, "45", names),
            (text, [4, 5, {}], names), (text, [4, 10 ** 59], names),
            (text, numbers, []), (text, numbers, [9]), (text, numbers, [9, 10, 11]), (text, numbers, [9, 9]),
            (text, numbers, [9, 4]), (text, numbers, [0, 10]), (text, numbers, [8, 9]), (text, numbers, [-1, 10]),
            (text, numbers, [True, 10]), (text, numbers, [9, False]), (text, numbers, ["9", "10"]),
            (text, numbers, [9, "10"]), (text, numbers, [9, None]), (text, numbers, [9, [10]]),
            (text, numbers, [n(9), n(10)]), (text, numbers, (9, 10)), (text, numbers, {9: 10}),
            (text, numbers, {9: 1, 10: 1}), (text, numbers, None), (text, numbers, 9), (text, numbers, "ab"),
            (text, numbers, [10, 9]), (text, numbers, [11, 12]),
            (text, numbers), (text, numbers, names, []), (text, names, numbers), [text, numbers, names],
            {0: text, 1: numbers, 2: names}, (self.PAPER,), [self.PAPER], None, "", (), same_paper(self.CODE),
            ("main", 4, {}, {}),
        ]
        self.assertTrue(LastCalls().holds(self.CODE, behind, self.PAPER))
        for paper in amiss:
            self.assertIs(LastCalls().holds(self.CODE, behind, paper), False, paper)
            self.assertIs(LastCalls().holds(self.CODE, self.CODE, paper), False, paper)
        # But for four they are no papers at all; those are papers for another form behind.
        right = [paper for paper in amiss if is_paper_by_hand(self.CODE.told(), paper)]
        self.assertEqual(right, [(text, [4], names), (text, [5], names), (text, numbers, [10, 9]),
                                 (text, numbers, [11, 12])])

    def test_what_would_come_all_the_same(self):
        # By no number at all, or by a name below 0, a form would come that is well made.
        for numbers, names, fit in [
            ([], [9, 10], True), ([4, 5], [-1, 10], True), ([5, 4], [9, 10], True), ([4, 4], [9, 10], True),
            ((4, 5), [9, 10], True), ([4, 5], (9, 10), True), ({4: 1, 5: 1}, [9, 10], True),
            ([4, 5], {9: 1, 10: 1}, True), ([4, 5], [9, 4], False), ([4, 5], [9], False), ([4, 5], [9, 10, 11], False),
            # 8 is a name of the function, but would be given no more.
            ([4, 5], [9, 8], True),
        ]:
            paper = ("main", numbers, names)
            behind = code_of(turned_by_hand(self.CODE.told(), paper))
            self.assertIs(is_fit(behind), fit, paper)
            self.assertIs(LastCalls().holds(self.CODE, behind, paper), False, paper)

    def test_truths_for_numbers(self):
        # 1 is a last call, and 0 and 1 are free names: True and False are neither.
        main = made([NUM, NUM], NUM, Block([4, 5], [Row(6, "less", None, [n(4), n(5)])],
                                           Branch(n(6), (1, ()), (2, ()))),
                    Block([], [], Risk("call", "main", [n(5), n(4)], (3, ()), [])), Block([], [], Back(n(4))), LAST,
                    n6=TRUTH)
        code = Code({"main": main})
        behind = self.lets_by(code, ("main", [1], [0, 1]))
        for paper in [("main", [True], [0, 1]), ("main", [1], [False, 1]), ("main", [1], [0, True])]:
            self.assertIs(LastCalls().holds(code, behind, paper), False)
        code = Code({"main": made([NUM], NUM, Block([1], [], Risk("call", "main", [n(1)], (1, ()), [])), LAST)})
        behind = self.lets_by(code, ("main", [0], [0]))
        for paper in [("main", [False], [0]), ("main", [0], [False])]:
            self.assertIs(LastCalls().holds(code, behind, paper), False)

    def test_any_thing(self):
        behind = code_of(turned_by_hand(self.CODE.told(), self.PAPER))
        text, numbers, names = self.PAPER
        for thing in things():
            for paper in [thing, (thing, numbers, names), (text, thing, names), (text, numbers, thing),
                          (text, [thing], names), (text, [4, thing], names), (text, numbers, [9, thing]),
                          (text, numbers, [thing, 10])]:
                self.assertIs(LastCalls().holds(self.CODE, behind, paper), False, paper)

    def test_forms_behind_that_are_another(self):
        behind = code_of(turned_by_hand(self.CODE.told(), self.PAPER))
        main, f = behind.functions["main"], behind.functions["f"]

        def other(number, **parts):
            blocks = list(main.blocks)
            block = blocks[number]
            blocks[number] = Block(block.params, parts.get("rows", block.rows), parts.get("end", block.end))
            return behind.with_function("main", Function(main.takes, main.gives, main.kinds, blocks))
        for one in [
            self.CODE, behind.with_function("h", f), Code({"main": main}), behind.with_function("f", main),
            other(0, rows=[TICK]), other(3, rows=[]), other(3, rows=[TICK, TICK]), other(4, rows=[]),
            other(3, end=Jump((5, (n(4), n(3))))), other(0, end=Jump((5, (n(10), n(9))))), other(1, end=Back(n(9))),
            code_of(turned_by_hand(self.CODE.told(), ("main", [4], [9, 10]))),
            code_of(turned_by_hand(self.CODE.told(), ("main", [4, 5], [10, 9]))),
            code_of(turned_by_hand(self.CODE.told(), ("f", [0], [2]))),
        ]:
            self.assertIs(LastCalls().holds(self.CODE, one, self.PAPER), False)
        again = Function([NUM, NUM], NUM, dict(reversed(list(main.kinds.items()))), list(main.blocks))
        self.assertIs(LastCalls().holds(self.CODE, behind.with_function("main", again), self.PAPER), True)

    def test_numbers_and_truths_behind(self):
        code = counting()
        behind, paper = LastCalls().tried(code)
        for one, other in [("('num', 1)", "('num', True)"), ("('jump', (3,", "('jump', (3 == 3,")]:
            text = shown(behind.told())
            self.assertIn(one, text)
            self.assertIs(LastCalls().holds(code, code_of(eval(text.replace(one, other))), paper), False)

    def test_forms_ahead_that_are_not_well_made(self):
        behind = code_of(turned_by_hand(self.CODE.told(), self.PAPER))
        main = self.CODE.functions["main"]
        wrong = Function(main.takes, main.gives, {**main.kinds, 55: NUM}, main.blocks)
        for ahead in [self.CODE.with_function("main", wrong), Code({"f": self.CODE.functions["f"]}), Code({}),
                      self.CODE.with_function("f", made([NUM], NUM, Block([0], [], Back(n(9))))),
                      self.CODE.with_function("main", Function((), NUM, {}, []))]:
            self.assertFalse(is_fit(ahead))
            self.assertIs(LastCalls().holds(ahead, behind, self.PAPER), False)
        ahead = self.CODE.with_function("f", made([NUM], NUM, Block([0], [], Back(n(9)))))
        behind = code_of(turned_by_hand(ahead.told(), self.PAPER))
        self.assertIs(LastCalls().holds(ahead, behind, self.PAPER), False)


class ByChance(Turning):
    def drawn(self, seed):
        drawer = Drawer(seed)
        return drawer, with_last_calls(drawer.code(), seed)

    def test_of_drawn_codes(self):
        changes = 0
        for seed in range(400):
            drawer, ahead = self.drawn(seed)
            behind = self.comes(ahead)
            changes += behind is not None
            for time in range(2 if behind else 0):
                self.runs_alike(ahead, behind, drawer.inputs())
        self.assertGreater(changes, 200)

    def test_of_programs(self):
        self.assertGreater(self.changes_of_sown(400), 15)

    def test_of_programs_with_more_of_them(self):
        changes = 0
        for seed in range(200):
            sower = Sower(seed, size=40)
            ahead = with_last_calls(sown_code(sower), seed)
            takes = next(head[1] for head in sower.heads if head[0] == "main")
            behind = self.comes(ahead)
            changes += behind is not None
            for time in range(2 if behind else 0):
                self.runs_alike(ahead, behind, [sower.value(kind) for text, kind in takes])
        self.assertGreater(changes, 100)

    def test_again_and_again(self):
        for seed in range(60):
            code = self.drawn(seed)[1]
            while code is not None:
                code = self.comes(code)

    def test_papers_of_all_sorts(self):
        held, less = 0, 0
        for seed in range(500):
            drawer, code = self.drawn(seed)
            paper = some_paper(code.told(), Random(seed))
            if paper is not None:
                held += 1
                less += len(paper[1]) < len(last_by_hand(paper[0], dict(code.told())[paper[0]]))
                behind = self.lets_by(code, paper)
                for time in range(2):
                    self.runs_alike(code, behind, drawer.inputs())
        self.assertGreater(held, 200)
        self.assertGreater(less, 10)

    def test_papers_put_otherwise(self):
        others = [0, 1, 2, 3, 4, 5, 6, 7, 8, -1, True, False, None, "main", "f", "", (), [], {}, [4], n(4), 700]
        held, papers = 0, 0
        for seed in range(3000):
            chance = Random(seed)
            code = Papers.CODE if seed % 2 else self.drawn(seed % 40)[1]
            paper = some_paper(code.told(), chance)
            if paper is None:
                continue
            behind = code_of(turned_by_hand(code.told(), paper))
            other = otherwise(paper, chance, others)
            wanted = is_paper_by_hand(code.told(), other)
            papers += wanted
            wanted = wanted and turned_by_hand(code.told(), other) == behind.told()
            held += wanted
            self.assertIs(LastCalls().holds(code, behind, other), wanted, (code.told(), paper, other))
            if is_paper_by_hand(code.told(), other):
                self.lets_by(code, other)
        self.assertGreater(papers, 60)
        self.assertGreater(held, 5)

    def test_blocks_all_come_to(self):
        for seed in range(100):
            told = LastCalls().tried(self.drawn(seed)[1])
            for function in told[0].functions.values() if told else []:
                there, waiting = {0}, [0]
                while waiting:
                    more = set(ways_of(function)[waiting.pop()]) - there
                    there |= more
                    waiting.extend(more)
                self.assertEqual(len(there), len(function.blocks))


if __name__ == "__main__":
    unittest.main()
