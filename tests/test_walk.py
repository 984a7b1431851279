"""Points 4, 6 and 70 to 77: the walk, by which rewritings of rows are checked."""

import copy
import unittest
from random import Random

from eachstepsame.blockrun import run_blocks
from eachstepsame.blocks import Back, Block, Branch, Code, Function, Jump, Raise, Risk, Row
from eachstepsame.errors import Fault
from eachstepsame.fits import is_fit, need_fit, rulers
from eachstepsame.ops import reckoned, result_kind
from eachstepsame.rewriting import same_paper
from eachstepsame.walk import REASONS, Walk, plain_of
from tests.helper import (
    FLAG, NO, NUM, RECORDS, ROWS, TICK, TRUTH, YES, Rougher, Sower, changed, made, n, noted, num, plain_cases,
    sample_code, shown, single, sown_code, things,
)

FULL = Walk(REASONS)
WIDE = ("row", 2)


class Gone(Exception):
    """An image or a partner was asked for, and there is none."""


class Oracle:
    """A second reading of 70 to 76, of what forms tell as tuples."""

    def __init__(self, reasons):
        self.reasons = set(reasons)

    def lets_by(self, ahead, behind, paper):
        one, other = dict(ahead.told()), dict(behind.told())
        if not (is_fit(ahead) and is_fit(behind) and one.keys() == other.keys()):
            return False
        if paper.__class__ is not dict or paper.keys() != one.keys():
            return False
        rulings = {text: rulers(behind.functions[text]) for text in other}
        try:
            return all(one[text][:2] == other[text][:2] and self.function(one[text], other[text], paper[text],
                                                                          rulings[text])
                       for text in one)
        except Gone:
            return False

    def function(self, ahead, behind, sheet, ruling):
        if not (sheet.__class__ is tuple and [part.__class__ for part in sheet] == [dict, dict]):
            return False
        self.ahead, self.behind, self.ruling = ahead[3], behind[3], ruling
        self.partners, self.images = sheet
        if not self.is_paper():
            return False
        self.edges = []
        numbers = list(self.partners)
        return all([self.end(number) for number in numbers]) and all(
            self.rows(number) and self.marks(number) and self.params(number) for number in numbers)

    def is_paper(self):
        blocks = list(self.partners) + list(self.partners.values())
        if any(number.__class__ is not int for number in blocks):
            return False
        ahead, behind = [{name for block in blocks for name in list(block[0]) + [row[0] for row in block[1]]} - {None}
                         for blocks in (self.ahead, self.behind)]
        for name, operand in self.images.items():
            if name.__class__ is not int or name not in ahead or operand.__class__ is not tuple or len(operand) != 2:
                return False
            word, value = operand
            if not (word == "num" and value.__class__ is int or word == "truth" and value.__class__ is bool
                    or word == "name" and value.__class__ is int and value in behind):
                return False
        return (all(number in range(len(self.ahead)) for number in self.partners)
                and all(number in range(len(self.behind)) for number in self.partners.values())
                and len(set(self.partners.values())) == len(self.partners) and self.partners.get(0) == 0)

    def image(self, operand):
        if operand[0] != "name":
            return operand
        if operand[1] not in self.images:
            raise Gone()
        return self.images[operand[1]]

    def partner(self, number):
        if number not in self.partners:
            raise Gone()
        return self.partners[number]

    def rows(self, number):
        for name, op, extra, operands in self.ahead[number][1]:
            if name is None or name not in self.images:
                continue
            put = [self.image(operand) for operand in operands]
            if not self.ways(self.images[name], op, extra, put, self.partner(number)) & (self.reasons | {"kept"}):
                return False
        return True

    def ways(self, image, op, extra, put, partner):
        """The reasons by which a row of these operands may have this image."""
        found = set()
        for number, block in enumerate(self.behind):
            for row in block[1]:
                if row[0] is not None and image == ("name", row[0]) and row[1:] == (op, extra, tuple(put)):
                    found.add("kept" if number == partner else "moved")
        if op == "copy" and image == put[0]:
            found.add("copy")
        if all(operand[0] != "name" for operand in put) and image[0] != "name":
            kinds = [(operand[0],) for operand in put]
            if result_kind(op, extra, kinds) == (image[0],):
                if reckoned(op, extra, [operand[1] for operand in put]) == image[1]:
                    found.add("fold")
        if len(put) == 2 and image in [told for told in [plain_by_table(op, *put)] if told is not None]:
            found.add("plain")
        return found

    def marks(self, number):
        ahead = [row for row in self.ahead[number][1] if row[0] is None]
        behind = [row for row in self.behind[self.partner(number)][1] if row[0] is None]
        return [(row[1], [self.image(operand) for operand in row[3]]) for row in ahead] == [
            (row[1], list(row[3])) for row in behind]

    def end(self, number):
        end, other = self.ahead[number][2], self.behind[self.partner(number)][2]
        if end[0] == other[0]:
            if end[0] == "raise":
                return end == other
            if end[0] == "jump":
                return self.edge(end[1], other[1])
            if end[0] == "back":
                return self.image(end[1]) == other[1]
            if end[0] == "branch":
                return self.image(end[1]) == other[1] and all([self.edge(end[2], other[2]),
                                                               self.edge(end[3], other[3])])
            same = (end[1:3] == other[1:3] and [self.image(operand) for operand in end[3]] == list(other[3])
                    and [fault for fault, way in end[5]] == [fault for fault, way in other[5]])
            return same and all([self.edge(end[4], other[4], "result")] + [
                self.edge(way, answer) for (fault, way), (again, answer) in zip(end[5], other[5])])
        return "known" in self.reasons and self.known(end, other)

    def known(self, end, other):
        if end[0] == "branch":
            test = self.image(end[1])
            return other[0] == "jump" and test in (YES, NO) and self.edge(end[2] if test == YES else end[3], other[1])
        if end[0] != "risk" or end[1] == "call":
            return False
        put = [self.image(operand) for operand in end[3]]
        if any(operand[0] == "name" for operand in put) or result_kind(end[1], end[2],
                                                                       [(one[0],) for one in put]) is None:
            return False
        try:
            result = ("num", reckoned(end[1], end[2], [operand[1] for operand in put]))
        except Fault as fault:
            way = dict(end[5]).get(fault.name)
            return other == ("raise", fault.name) if way is None else other[0] == "jump" and self.edge(way, other[1])
        return other[0] == "jump" and self.edge(end[4], other[1], result)

    def edge(self, edge, answer, result=None):
        """Result is the word result, of both, or a constant, of the edge ahead alone, or None."""
        handed = ([result] if result is not None else []) + list(edge[1])
        answered = (["result"] if result == "result" else []) + list(answer[1])
        self.edges.append((edge[0], handed, answered))
        return self.partner(edge[0]) == answer[0]

    def params(self, number):
        params, others = self.ahead[number][0], self.behind[self.partner(number)][0]
        for place, name in enumerate(params):
            if name in self.images and not self.param(number, place, self.images[name], others):
                return False
        return True

    def param(self, number, place, image, others):
        if number == 0:
            return image == ("name", others[place])
        came = [(handed[place] if handed[place] == "result" else self.image(handed[place]), answered)
                for to, handed, answered in self.edges if to == number]
        if image[0] == "name" and image[1] in others:
            return all(one == answered[others.index(image[1])] for one, answered in came)
        if image[0] == "name":
            partner = self.partner(number)
            giver = next(one for one, block in enumerate(self.behind)
                         if image[1] in list(block[0]) + [row[0] for row in block[1]])
            if giver == partner or giver not in self.ruling[partner]:
                return False
        return "param" in self.reasons and all(one == image for one, answered in came)


def plain_by_table(op, a, b):
    zero = num(0)
    for word, left, right, told in [
        ("add", a, zero, a), ("add", zero, b, b), ("sub", a, zero, a), ("and", a, YES, a), ("and", YES, b, b),
        ("or", a, NO, a), ("or", NO, b, b), ("and", a, NO, NO), ("and", NO, b, NO), ("less", a, a, NO),
        ("or", a, YES, YES), ("or", YES, b, YES), ("same", a, a, YES), ("sub", a, a, zero),
    ]:
        if (word, left, right) == (op, a, b):
            return told
    return None


class Walks(unittest.TestCase):
    def told(self, walk, ahead, behind, paper):
        kept = shown((ahead.told(), behind.told(), paper))
        copied = copy.deepcopy(paper)
        told = walk.lets_by(ahead, behind, paper)
        self.assertIs(told.__class__, bool)
        self.assertEqual(shown((ahead.told(), behind.told(), paper)), kept)
        self.assertIs(walk.lets_by(ahead, behind, copied), told)
        self.assertIs(Oracle(walk.reasons).lets_by(ahead, behind, paper), told)
        return told

    def let_by(self, ahead, behind, paper, reasons=REASONS):
        self.assertTrue(is_fit(ahead) and is_fit(behind))
        self.assertTrue(self.told(Walk(reasons), ahead, behind, paper))

    def not_let_by(self, ahead, behind, paper, reasons=REASONS):
        self.assertTrue(is_fit(ahead) and is_fit(behind))
        self.assertFalse(self.told(Walk(reasons), ahead, behind, paper))

    def only(self, reason, ahead, behind, paper):
        """It needs just this reason."""
        self.let_by(ahead, behind, paper)
        self.let_by(ahead, behind, paper, [reason])
        self.let_by(ahead, behind, paper, ("kept", reason))
        self.not_let_by(ahead, behind, paper, [other for other in REASONS if other != reason])
        self.not_let_by(ahead, behind, paper, [])


def alone(rows, end, takes=(NUM, NUM, TRUTH, TRUTH), gives=NUM, **kinds):
    """A main of one block, which takes 0 and 1, numbers, and 2 and 3, truths."""
    told = {"n" + str(name): kind for name, kind in enumerate(takes)}
    return single(rows, end, takes, gives, **{**told, **kinds})


def sheet(partners, **images):
    """A paper for a main alone: partners as a list, images as n5=n(3) and so on."""
    return {"main": (dict(enumerate(partners)), {int(text[1:]): operand for text, operand in images.items()})}


TAKEN = {"n0": n(0), "n1": n(1), "n2": n(2), "n3": n(3)}


class PlainOf(unittest.TestCase):
    OPERANDS = [n(0), n(1), n(7), num(0), num(1), num(-1), num(5), YES, NO]
    OPS = ["copy", "neg", "add", "sub", "less", "same", "and", "or", "not", "make", "get", "put",
           "mul", "div", "mod", "pick", "lay", "call"]

    def test_of_every_operation_and_operands(self):
        for op in self.OPS:
            for a in self.OPERANDS:
                for b in self.OPERANDS:
                    self.assertEqual(shown(plain_of(op, a, b)), shown(plain_by_table(op, a, b)), (op, a, b))

    def test_by_hand(self):
        a, b = n(3), n(4)
        for op, one, other, told in [
            ("add", a, num(0), a), ("add", num(0), a, a), ("add", a, num(1), None), ("add", a, a, None),
            ("sub", a, num(0), a), ("sub", num(0), a, None), ("sub", a, a, num(0)), ("sub", a, b, None),
            ("and", a, YES, a), ("and", YES, a, a), ("and", a, NO, NO), ("and", NO, a, NO), ("and", a, a, None),
            ("or", a, NO, a), ("or", NO, a, a), ("or", a, YES, YES), ("or", YES, a, YES), ("or", a, b, None),
            ("less", a, a, NO), ("less", a, b, None), ("same", a, a, YES), ("same", a, b, None),
            ("same", num(1), num(1), YES), ("same", num(1), num(2), None), ("less", num(2), num(2), NO),
            ("less", num(1), num(2), None), ("mul", a, num(1), None), ("mul", a, num(0), None), ("add", num(0), num(0),
                                                                                                 num(0)),
            ("and", YES, NO, NO), ("or", NO, YES, YES), ("and", YES, YES, YES), ("sub", num(4), num(4), num(0)),
        ]:
            self.assertEqual(shown(plain_of(op, one, other)), shown(told), (op, one, other))

    def test_a_number_for_a_number_and_a_truth_for_a_truth(self):
        self.assertIsNone(plain_of("add", n(1), NO))
        self.assertIsNone(plain_of("add", NO, n(1)))
        self.assertIsNone(plain_of("sub", n(1), NO))
        self.assertIsNone(plain_of("and", n(1), num(1)))
        self.assertIsNone(plain_of("and", num(0), n(1)))
        self.assertIsNone(plain_of("or", n(1), num(0)))
        self.assertIsNone(plain_of("or", num(1), n(1)))
        self.assertIsNone(plain_of("same", num(1), YES))
        self.assertIsNone(plain_of("less", num(0), NO))
        self.assertIsNone(plain_of("sub", num(0), n(0)))
        self.assertEqual(shown(plain_of("less", n(1), n(1))), "('truth', False)")
        self.assertEqual(shown(plain_of("same", n(1), n(1))), "('truth', True)")
        self.assertEqual(shown(plain_of("sub", n(1), n(1))), "('num', 0)")


class Made(Walks):
    def test_reasons(self):
        self.assertEqual(REASONS, ("kept", "moved", "copy", "fold", "plain", "known", "param"))
        self.assertIs(REASONS.__class__, tuple)

    def test_a_list_in_any_order_that_is_changed_later(self):
        ahead, behind = alone([Row(5, "copy", None, [n(0)])], Back(n(5))), alone([], Back(n(0)))
        paper = sheet([0], n5=n(0), **TAKEN)
        reasons = ["param", "copy"]
        walk = Walk(reasons)
        reasons.clear()
        self.assertTrue(walk.lets_by(ahead, behind, paper))
        self.assertFalse(Walk(reasons).lets_by(ahead, behind, paper))
        self.assertTrue(Walk(("fold", "copy", "kept", "copy")).lets_by(ahead, behind, paper))

    def test_a_code_is_its_own_behind(self):
        for code in [sample_code(), alone([TICK], Back(n(0)))]:
            self.let_by(code, code, same_paper(code), [])
            self.let_by(code, code, same_paper(code))


class Papers(Walks):
    """Point 70: the sample is its own behind, with a paper that is amiss in one thing."""

    SMALL = alone([], Back(n(0)), (NUM,))

    def amiss(self, paper):
        self.not_let_by(sample_code(), sample_code(), paper)

    def amiss_of_small(self, paper):
        self.not_let_by(self.SMALL, self.SMALL, paper)

    def put(self, text, place, **parts):
        """The paper with one dict of one function put otherwise, or with one tuple more."""
        paper = same_paper(sample_code())
        told = list(paper[text])
        told[place] = parts["told"]
        paper[text] = tuple(told)
        return paper

    def test_things_that_are_no_paper(self):
        for thing in things():
            self.amiss_of_small(thing)

    def test_functions(self):
        paper = same_paper(sample_code())
        for text in paper:
            self.amiss({other: told for other, told in paper.items() if other != text})
            self.amiss({**paper, text: None})
            self.amiss({(text + "s" if other == text else other): told for other, told in paper.items()})
        for more in ["h", "", 1, None, True, ("main",)]:
            self.amiss({**paper, more: paper["f"]})
        self.amiss({})

    def test_things_for_a_function(self):
        paper = same_paper(sample_code())
        for thing in things():
            self.amiss_of_small({"main": thing})
        partners, images = paper["g"]
        for thing in [[partners, images], (partners,), (partners, images, {}), (images, partners), (partners, None),
                      (list(partners.items()), images), (partners, tuple(images.items())), ({}, images),
                      (partners, [])]:
            self.amiss({**paper, "g": thing})

    def test_partners(self):
        good = same_paper(sample_code())["main"][0]
        self.let_by(sample_code(), sample_code(), self.put("main", 0, told=dict(good)))
        for number, partner in [(0, 1), (0, False), (1, True), (1, 0), (1, 2), (3, None), (3, "3"), (3, 8), (3, -1),
                                (3, (3,)),
                                (8, 8), (-1, 3), (True, 1), (None, 3), ("3", 3), ((), 3), (8, 3), (8, 0)]:
            told = {**good, number: partner}
            if number is True:
                told = {(True if key == 1 else key): value for key, value in good.items()}
            self.amiss(self.put("main", 0, told=told))
        self.amiss(self.put("main", 0, told={number: number for number in range(1, 8)}))
        self.amiss(self.put("main", 0, told={(False if number == 0 else number): number for number in range(8)}))
        self.amiss(self.put("main", 0, told={}))
        for thing in things():
            if thing.__class__ is not int or thing != 0:
                self.amiss_of_small({"main": ({0: thing}, {0: n(0)})})

    def test_the_partner_of_0_is_0(self):
        ahead = Code({"main": made([], NUM, Block([], [], Back(num(1))))})
        behind = Code({"main": made([], NUM, Block([], [noted(num(5))], Jump((1, ()))), Block([], [], Back(num(1))))})
        self.not_let_by(ahead, behind, sheet([1]))
        self.not_let_by(ahead, behind, sheet([0]))

    def test_no_two_blocks_have_one_partner(self):
        last = Block([], [], Back(num(1)))
        ahead = Code({"main": made([TRUTH], NUM, Block([0], [], Branch(n(0), (1, ()), (2, ()))), last, last, n0=TRUTH)})
        behind = Code({"main": made([TRUTH], NUM, Block([0], [], Branch(n(0), (1, ()), (1, ()))), last, n0=TRUTH)})
        self.not_let_by(ahead, behind, sheet([0, 1, 1], n0=n(0)))
        self.not_let_by(ahead, behind, sheet([0, 1], n0=n(0)))
        self.let_by(ahead, ahead, sheet([0, 1, 2], n0=n(0)), [])
        self.not_let_by(ahead, ahead, sheet([0, 2, 1], n0=n(0)))

    def test_images(self):
        good = same_paper(sample_code())["main"][1]
        self.assertEqual(len(good), 12)
        for name, operand in [
            (12, n(11)), (12, num(1)), (-1, num(1)), (None, num(1)), ("2", num(1)), ((), n(1)),
            (2, None), (2, 2), (2, ["name", 2]), (2, ("name", 12)), (2, ("name", -1)), (2, ("name", None)),
            (2, ("name",)),
            (2, ("name", 2, 2)), (2, ("num", True)), (2, ("truth", 1)), (2, ("truth", 0)), (2, ("num", None)),
            (2, ("num", "1")), (2, ("text", 1)), (2, ("name", "2")), (2, "name"), (2, ()), (2, ("Name", 2)),
        ]:
            self.amiss(self.put("main", 1, told={**good, name: operand}))
        for thing in things():
            self.amiss_of_small({"main": ({0: 0}, {0: thing})})

    def test_truths_in_the_place_of_numbers(self):
        code = Code({"main": made([NUM, NUM], NUM, Block([0, 1], [], Jump((1, ()))), Block([], [], Back(n(1))))})
        self.let_by(code, code, {"main": ({0: 0, 1: 1}, {0: n(0), 1: n(1)})})
        for partners, images in [
            ({0: 0, True: 1}, {0: n(0), 1: n(1)}), ({0: 0, 1: True}, {0: n(0), 1: n(1)}),
            ({False: 0, 1: 1}, {0: n(0), 1: n(1)}), ({0: False, 1: 1}, {0: n(0), 1: n(1)}),
            ({0: 0, 1: 1}, {False: n(0), 1: n(1)}), ({0: 0, 1: 1}, {0: n(0), True: n(1)}),
            ({0: 0, 1: 1}, {0: n(False), 1: n(1)}), ({0: 0, 1: 1}, {0: n(0), 1: n(True)}),
        ]:
            self.not_let_by(code, code, {"main": (partners, images)})

    def test_constants_are_of_their_kinds_strictly(self):
        ahead = alone([Row(5, "sub", None, [n(0), n(0)]), Row(6, "same", None, [n(0), n(0)])], Back(n(0)),
                      n6=TRUTH)
        behind = alone([], Back(n(0)))
        self.let_by(ahead, behind, sheet([0], n5=num(0), n6=YES, **TAKEN))
        for five, six in [(("num", False), YES), (num(0), ("truth", 1)), (("truth", False), YES), (num(0), num(1))]:
            self.not_let_by(ahead, behind, sheet([0], n5=five, n6=six, **TAKEN))

    def test_blocks_and_names_that_are_not_told(self):
        # What is not told is never asked for: block 2 is come to by nobody's known way, name 5 is read by nobody.
        ahead = Code({"main": made([NUM], NUM, Block([0], [Row(5, "add", None, [n(0), num(1)])],
                                                     Branch(YES, (1, ()), (2, ()))),
                                   Block([], [], Back(n(0))), Block([], [Row(6, "neg", None, [n(0)])], Back(n(6))))})
        behind = Code({"main": made([NUM], NUM, Block([0], [], Jump((1, ()))), Block([], [], Back(n(0))))})
        self.let_by(ahead, behind, sheet([0, 1], n0=n(0)))
        self.let_by(ahead, behind, sheet([0, 1], n0=n(0), n6=num(44)))
        self.not_let_by(ahead, behind, sheet([0, 1, 1], n0=n(0)))
        self.not_let_by(ahead, behind, sheet([0], n0=n(0)))
        self.not_let_by(ahead, behind, sheet([0, 1]))
        self.not_let_by(ahead, behind, sheet([0, 1], n0=n(0), n5=num(1)))


class Forms(Walks):
    """Point 71."""

    def test_forms_that_are_not_well_made(self):
        good = sample_code()
        bad = good.with_function("main", changed(good.functions["main"], 4, end=Back(YES)))
        self.assertFalse(is_fit(bad))
        for ahead, behind in [(good, bad), (bad, good), (bad, bad), (Code({}), Code({}))]:
            for paper in [same_paper(good), same_paper(bad), {}]:
                self.assertFalse(self.told(FULL, ahead, behind, paper))
        no_blocks = Code({"main": Function((), NUM, {}, [])})
        self.assertFalse(self.told(FULL, no_blocks, no_blocks, {"main": ({}, {})}))
        self.assertFalse(self.told(FULL, no_blocks, no_blocks, {"main": ({0: 0}, {})}))

    def test_forms_that_are_not_well_made_in_what_nobody_asks(self):
        good = alone([], Back(n(0)))
        main = good.functions["main"]
        for bad in [changed(main, more=[Block([], [], Back(num(1)))]), changed(main, kinds={50: NUM}),
                    changed(main, rows=[Row(50, "mul", None, [n(0), n(1)])], kinds={50: NUM}),
                    changed(main, rows=[Row(50, "add", None, [n(0), n(2)])], kinds={50: NUM}),
                    changed(main, rows=[Row(50, "neg", None, [n(51)]), Row(51, "neg", None, [n(0)])],
                            kinds={50: NUM, 51: NUM})]:
            bad = Code({"main": bad})
            self.assertFalse(is_fit(bad))
            for paper in [same_paper(good), same_paper(bad)]:
                self.assertFalse(self.told(FULL, good, bad, paper))
                self.assertFalse(self.told(FULL, bad, good, paper))
                self.assertFalse(self.told(FULL, bad, bad, paper))
        silent = Code({"main": made([], NUM, Block([], [], Jump((1, ()))), Block([], [], Jump((1, ()))))})
        self.assertFalse(self.told(FULL, silent, silent, same_paper(silent)))

    def test_other_functions(self):
        good = sample_code()
        more = good.with_function("h", good.functions["g"])
        fewer = Code({"main": alone([], Back(n(0))).functions["main"]})
        for ahead in [good, more, fewer]:
            for behind in [good, more, fewer]:
                for paper in [same_paper(ahead), same_paper(behind)]:
                    self.assertIs(self.told(FULL, ahead, behind, paper), ahead is behind and paper == same_paper(ahead))

    def test_other_kinds_taken_or_given(self):
        def code(takes, gives):
            return Code({"main": made(takes, gives, Block(range(len(takes)), [], Raise("oops")),
                                      **{"n" + str(place): kind for place, kind in enumerate(takes)})})
        some = [((), NUM), ((), TRUTH), ((NUM,), NUM), ((TRUTH,), NUM), ((NUM, TRUTH), NUM), ((TRUTH, NUM), NUM),
                ((NUM,), ("row", 1)), ((("row", 1),), NUM), ((("row", 2),), NUM)]
        for one in some:
            for other in some:
                for paper in [same_paper(code(*one)), same_paper(code(*other)), sheet([0])]:
                    told = self.told(FULL, code(*one), code(*other), paper)
                    if one != other:
                        self.assertFalse(told)
                self.assertTrue(one != other or told)

    def test_other_blocks_and_names_behind(self):
        # The same, with blocks in another order and other names.
        ahead = sample_code()
        blocks = {1: 6, 2: 7, 3: 5, 4: 1, 5: 2, 6: 3, 7: 4}
        names = {name: 20 - name for name in range(12)}
        main = ahead.functions["main"]
        put = {name: n(other) for name, other in names.items()}
        turned = [None] * 8
        for number, block in enumerate(main.blocks):
            rows = [row.moved(put, names) for row in block.rows]
            turned[blocks.get(number, 0)] = Block([names[name] for name in block.params], rows,
                                                  block.end.moved(put, blocks))
        kinds = {names[name]: kind for name, kind in main.kinds.items()}
        behind = ahead.with_function("main", Function(main.takes, main.gives, kinds, turned))
        paper = {**same_paper(ahead), "main": ({0: 0, **blocks}, put)}
        self.let_by(ahead, behind, paper, [])
        self.not_let_by(ahead, behind, same_paper(ahead))
        self.not_let_by(ahead, behind, {**paper, "main": ({0: 0, **blocks, 4: 2, 5: 1}, put)})


class Rows(Walks):
    """Point 72."""

    def test_kept(self):
        ahead = alone([Row(5, "add", None, [n(0), num(1)]), Row(6, "sub", None, [n(5), n(1)])], Back(n(6)))
        behind = alone([Row(8, "add", None, [n(0), num(1)]), Row(9, "sub", None, [n(8), n(1)])], Back(n(9)))
        good = {"n5": n(8), "n6": n(9), **TAKEN}
        self.let_by(ahead, behind, sheet([0], **good), [])
        for amiss in [{"n5": n(9)}, {"n6": n(8)}, {"n5": n(0)}, {"n5": num(8)}, {"n0": n(1)}, {"n1": n(0)}]:
            self.not_let_by(ahead, behind, sheet([0], **{**good, **amiss}))
        for gone in ["n5", "n6", "n0"]:
            self.not_let_by(ahead, behind, sheet([0], **{text: told for text, told in good.items() if text != gone}))
        self.let_by(ahead, behind, sheet([0], **{text: told for text,
                                                 told in good.items() if text not in ("n2", "n3")}))

    def test_a_number_is_no_name(self):
        ahead = alone([Row(5, "neg", None, [n(0)])], Back(n(5)))
        behind = alone([Row(5, "neg", None, [n(0)])], Back(num(5)))
        self.not_let_by(ahead, behind, sheet([0], n5=num(5), **TAKEN))
        handed = Code({"main": made([NUM], NUM, Block([0], [], Jump((1, (n(0),)))), Block([5], [], Back(n(5))))})
        other = Code({"main": made([NUM], NUM, Block([0], [], Jump((1, (n(0),)))), Block([5], [], Back(num(5))))})
        self.not_let_by(handed, other, sheet([0, 1], n0=n(0), n5=num(5)))

    def test_kept_with_another_operation_extra_or_operand(self):
        kinds = {"n5": ("row", 2), "n6": NUM}
        rows = [Row(5, "make", ("row", 2), [n(0), n(1)]), Row(6, "get", 0, [n(5)])]
        ahead = alone(rows, Back(n(6)), **kinds)
        paper = same_paper(ahead)
        self.let_by(ahead, ahead, paper, [])
        for other in [[rows[0], Row(6, "get", 1, [n(5)])], [Row(5, "make", ("row", 2), [n(1), n(0)]), rows[1]],
                      [rows[0], Row(6, "add", None, [n(0), n(1)])], [rows[0], Row(6, "copy", None, [n(0)])],
                      [Row(5, "make", ("row", 2), [n(0), num(1)]), rows[1]]]:
            self.not_let_by(ahead, alone(other, Back(n(6)), **kinds), paper)
            self.not_let_by(alone(other, Back(n(6)), **kinds), ahead, paper)
        like = [Row(5, "make", ("row", 3), [n(0), n(1), n(0)]), rows[1]]
        self.not_let_by(ahead, alone(like, Back(n(6)), n5=("row", 3)), paper)
        records = [alone([Row(5, "make", kind, [n(0), n(1)]), rows[1]], Back(n(6)), n5=kind)
                   for kind in [("row", 2), ("record", (NUM, NUM))]]
        self.not_let_by(records[0], records[1], paper)

    def test_like_rows_in_one_block_are_kept(self):
        ahead = alone([Row(5, "neg", None, [n(0)]), Row(6, "neg", None, [n(0)]), Row(7, "add", None, [n(5), n(6)])],
                      Back(n(7)))
        behind = alone([Row(5, "neg", None, [n(0)]), Row(7, "add", None, [n(5), n(5)])], Back(n(7)))
        self.let_by(ahead, behind, sheet([0], n5=n(5), n6=n(5), n7=n(7), **TAKEN), [])
        self.not_let_by(behind, ahead, sheet([0], n5=n(5), n7=n(7), **TAKEN))

    def test_a_param_behind_is_no_row(self):
        ahead = alone([Row(5, "copy", None, [n(0)])], Back(n(5)))
        behind = alone([Row(5, "copy", None, [n(0)])], Back(n(0)))
        self.not_let_by(ahead, behind, sheet([0], n5=n(0), **TAKEN), ["moved", "fold", "plain", "param", "known"])

    def two_blocks(self, first, second, end):
        """Block 0 with the first rows, then block 1 with the second."""
        return Code({"main": made([NUM, NUM], NUM, Block([0, 1], first, Jump((1, ()))), Block([], second, end))})

    def test_moved(self):
        row = Row(5, "add", None, [n(0), n(1)])
        paper = sheet([0, 1], n0=n(0), n1=n(1), n5=n(5))
        here, there = self.two_blocks([row], [], Back(n(5))), self.two_blocks([], [row], Back(n(5)))
        self.only("moved", here, there, paper)
        self.only("moved", there, here, paper)
        for other in [Row(5, "add", None, [n(1), n(0)]), Row(5, "sub", None, [n(0), n(1)]), Row(5, "copy", None,
                                                                                                [n(0)])]:
            self.not_let_by(there, self.two_blocks([other], [], Back(n(5))), paper)
        like = self.two_blocks([row], [Row(6, "add", None, [n(0), n(1)])], Back(n(6)))
        self.only("moved", like, here, sheet([0, 1], n0=n(0), n1=n(1), n5=n(5), n6=n(5)))

    def test_moved_out_of_a_loop(self):
        def code(ahead, within):
            return Code({"main": made([NUM, NUM], NUM, Block([0, 1], ahead, Jump((1, (n(0),)))),
                                      Block([2], [TICK] + within + [noted(n(4)), Row(3, "less", None, [n(2), n(4)])],
                                            Branch(n(3), (2, ()), (3, ()))),
                                      Block([], [Row(5, "add", None, [n(2), num(1)])], Jump((1, (n(5),)))),
                                      Block([], [], Back(n(2))), n3=TRUTH)})
        row = Row(4, "neg", None, [n(1)])
        ahead, behind = code([], [row]), code([row], [])
        self.only("moved", ahead, behind, same_paper(ahead))
        changing = Row(4, "neg", None, [n(2)])
        self.assertFalse(is_fit(code([changing], [])))

    def test_copy(self):
        ahead = alone([Row(5, "copy", None, [n(0)])], Back(n(5)))
        behind = alone([], Back(n(0)))
        self.only("copy", ahead, behind, sheet([0], n5=n(0), **TAKEN))
        self.not_let_by(ahead, alone([], Back(n(1))), sheet([0], n5=n(1), **TAKEN))
        for op, operands in [("neg", [n(0)]), ("add", [n(0), n(1)]), ("add", [n(0), num(1)])]:
            self.not_let_by(alone([Row(5, op, None, operands)], Back(n(5))), behind, sheet([0], n5=n(0), **TAKEN))
        self.not_let_by(ahead, behind, sheet([0], n5=n(0), n1=n(1)))
        twice = alone([Row(5, "copy", None, [n(0)]), Row(6, "copy", None, [n(5)])], Back(n(6)))
        self.only("copy", twice, behind, sheet([0], n5=n(0), n6=n(0), **TAKEN))

    def test_copy_of_every_kind(self):
        for kind in [NUM, TRUTH] + ROWS + RECORDS:
            ahead = single([Row(1, "copy", None, [n(0)])], Back(n(1)), [kind], kind, n0=kind, n1=kind)
            self.only("copy", ahead, single([], Back(n(0)), [kind], kind, n0=kind), sheet([0], n0=n(0), n1=n(0)))

    def test_fold(self):
        for op, operands, told, kind in [
            ("add", [num(3), num(4)], num(7), NUM), ("sub", [num(3), num(4)], num(-1), NUM), ("neg", [num(3)], num(-3),
                                                                                              NUM),
            ("less", [num(3), num(4)], YES, TRUTH), ("less", [num(4), num(3)], NO, TRUTH), ("not", [YES], NO, TRUTH),
            ("same", [num(3), num(4)], NO, TRUTH), ("copy", [num(5)], num(5), NUM), ("copy", [YES], YES, TRUTH),
        ]:
            gives, image = kind, told
            ahead = alone([Row(5, op, None, operands)], Back(n(5)), gives=gives, n5=kind)
            behind = alone([], Back(image), gives=gives)
            paper = sheet([0], n5=image, **TAKEN)
            if op == "copy":
                self.let_by(ahead, behind, paper, ["fold"])
                self.let_by(ahead, behind, paper, ["copy"])
                self.not_let_by(ahead, behind, paper, ["plain", "moved", "param", "known"])
            else:
                self.only("fold", ahead, behind, paper)
            for wrong in [num(8), num(0), num(1), n(0)] if kind == NUM else [YES, NO, n(2)]:
                if wrong != image:
                    self.not_let_by(ahead, alone([], Back(wrong), gives=gives), sheet([0], n5=wrong, **TAKEN))

    def test_fold_of_what_was_folded(self):
        ahead = alone([Row(5, "add", None, [num(3), num(4)]), Row(6, "add", None, [n(5), n(5)]),
                       Row(7, "less", None, [n(6), n(0)])], Back(n(7)), gives=TRUTH, n7=TRUTH)
        behind = alone([Row(7, "less", None, [num(14), n(0)])], Back(n(7)), gives=TRUTH, n7=TRUTH)
        self.only("fold", ahead, behind, sheet([0], n5=num(7), n6=num(14), n7=n(7), **TAKEN))
        self.not_let_by(ahead, behind, sheet([0], n6=num(14), n7=n(7), **TAKEN))
        self.not_let_by(ahead, behind, sheet([0], n5=num(6), n6=num(14), n7=n(7), **TAKEN))

    def test_what_gives_no_constant_is_not_folded(self):
        kind = ("record", (NUM,))
        ahead = alone([Row(5, "make", kind, [num(3)]), Row(6, "get", 0, [n(5)])], Back(n(6)), n5=kind)
        for five in [num(3), n(0), num(0)]:
            self.not_let_by(ahead, alone([], Back(num(3))), sheet([0], n5=five, n6=num(3), **TAKEN))
        self.not_let_by(ahead, alone([], Back(num(3))), sheet([0], n6=num(3), **TAKEN))

    def test_plain(self):
        for op, one, other, told in plain_cases(n(0), n(2)):
            kind = NUM if op in ("add", "sub") else TRUTH
            ahead = alone([Row(5, op, None, [one, other])], Back(n(5)), gives=kind, n5=kind)
            behind = alone([], Back(told), gives=kind)
            self.only("plain", ahead, behind, sheet([0], n5=told, **TAKEN))
            for wrong in [num(0), num(1), n(0), n(1)] if kind == NUM else [YES, NO, n(2), n(3)]:
                if wrong != told:
                    self.not_let_by(ahead, alone([], Back(wrong), gives=kind), sheet([0], n5=wrong, **TAKEN))

    def test_near_misses_of_plain(self):
        for op, one, other, told, kind in [
            ("sub", num(0), n(0), n(0), NUM), ("add", n(0), n(0), num(0), NUM), ("add", n(0), num(1), n(0), NUM),
            ("sub", n(0), n(1), num(0), NUM), ("less", n(0), n(1), NO, TRUTH), ("same", n(0), n(1), YES, TRUTH),
            ("and", n(2), n(2), n(2), TRUTH), ("or", n(2), n(2), n(2), TRUTH), ("same", n(0), n(0), NO, TRUTH),
            ("less", n(0), n(0), YES, TRUTH), ("and", n(2), n(3), NO, TRUTH), ("or", n(2), n(3), n(2), TRUTH),
        ]:
            ahead = alone([Row(5, op, None, [one, other])], Back(n(5)), gives=kind, n5=kind)
            self.not_let_by(ahead, alone([], Back(told), gives=kind), sheet([0], n5=told, **TAKEN))

    def test_plain_goes_by_images(self):
        ahead = alone([Row(5, "copy", None, [n(0)]), Row(6, "sub", None, [n(5), n(0)]), Row(7, "add", None,
                                                                                            [n(6), n(1)])],
                      Back(n(7)))
        behind = alone([], Back(n(1)))
        paper = sheet([0], n5=n(0), n6=num(0), n7=n(1), **TAKEN)
        self.let_by(ahead, behind, paper, ["copy", "plain"])
        self.not_let_by(ahead, behind, paper, ["plain"])
        self.not_let_by(ahead, behind, paper, ["copy"])
        # What has no image may not be passed over, whatever comes of it.
        truths = alone([Row(5, "and", None, [n(2), NO])], Back(n(5)), gives=TRUTH, n5=TRUTH)
        self.not_let_by(truths, alone([], Back(NO), gives=TRUTH), sheet([0], n5=NO, n0=n(0)))

    def test_more_rows_behind_and_names_without_images(self):
        ahead = alone([Row(5, "neg", None, [n(0)])], Back(n(0)))
        behind = alone([Row(8, "add", None, [n(0), n(1)]), Row(9, "neg", None, [n(8)])], Back(n(0)))
        self.let_by(ahead, behind, sheet([0], **TAKEN), [])
        self.let_by(ahead, behind, sheet([0], n0=n(0)), [])
        self.not_let_by(ahead, behind, sheet([0], n5=n(9), **TAKEN))

    def test_rows_of_blocks_without_a_partner_are_not_looked_at(self):
        def code(*rows):
            return Code({"main": made([NUM], NUM, Block([0], [], Branch(NO, (1, ()), (2, ()))),
                                      Block([], rows, Back(n(0))),
                                      Block([], [], Back(num(2))))})
        behind = Code({"main": made([NUM], NUM, Block([0], [], Jump((1, ()))), Block([], [], Back(num(2))))})
        ahead = code(noted(n(0)), Row(4, "neg", None, [n(0)]))
        self.let_by(ahead, behind, {"main": ({0: 0, 2: 1}, {0: n(0), 4: num(9)})}, ["known"])
        self.not_let_by(ahead, behind, {"main": ({0: 0, 1: 1}, {0: n(0)})})


class Marks(Walks):
    """Point 73."""

    def test_as_they_are(self):
        rows = [noted(n(0)), TICK, noted(num(1)), noted(n(2)), TICK, TICK]
        code = alone(rows, Back(n(0)))
        self.let_by(code, code, same_paper(code), [])
        spread = alone([rows[0], Row(7, "neg", None, [n(0)]), *rows[1:]], Back(n(0)))
        self.let_by(code, spread, same_paper(code), [])
        self.let_by(spread, code, same_paper(code), [])

    def test_more_fewer_or_in_another_order(self):
        rows = [noted(n(0)), TICK, noted(num(1)), noted(n(2)), TICK, noted(n(0))]
        code = alone(rows, Back(n(0)))
        paper = same_paper(code)
        for place in range(len(rows)):
            for more in [TICK, noted(n(0)), noted(num(1)), noted(YES)]:
                other = rows[:place] + [more] + rows[place:]
                self.not_let_by(code, alone(other, Back(n(0))), paper)
                self.not_let_by(alone(other, Back(n(0))), code, paper)
            self.not_let_by(code, alone(rows[:place] + rows[place + 1:], Back(n(0))), paper)
            if place:
                turned = rows[:place - 1] + [rows[place], rows[place - 1]] + rows[place + 1:]
                self.not_let_by(code, alone(turned, Back(n(0))), paper)

    def test_what_is_logged(self):
        code = alone([noted(n(0))], Back(n(0)))
        for other in [n(1), num(0), n(2), YES]:
            self.not_let_by(code, alone([noted(other)], Back(n(0))), same_paper(code))
        for one, other in [(num(1), YES), (YES, num(1)), (num(0), NO), (num(1), num(2)), (YES, NO)]:
            self.not_let_by(alone([noted(one)], Back(n(0))), alone([noted(other)], Back(n(0))), same_paper(code))
        folded = alone([Row(5, "add", None, [num(1), num(2)]), noted(n(5))], Back(n(0)))
        self.only("fold", folded, alone([noted(num(3))], Back(n(0))), sheet([0], n5=num(3), **TAKEN))
        self.not_let_by(folded, alone([noted(num(3))], Back(n(0))), sheet([0], **TAKEN))

    def test_marks_of_other_blocks_do_not_stand_in(self):
        def code(first, second):
            return Code({"main": made([NUM], NUM, Block([0], first, Jump((1, ()))), Block([], second, Back(n(0))))})
        for one, other in [(noted(n(0)), TICK), (TICK, noted(n(0))), (TICK, TICK)]:
            self.not_let_by(code([one, other], []), code([one], [other]), same_paper(code([], [])))
            self.not_let_by(code([one], [other]), code([], [one, other]), same_paper(code([], [])))


class Ends(Walks):
    """Point 74."""

    def fork(self, end, third=Raise("oops"), rows=()):
        """Block 0 takes 0, 1, numbers, and 2, 3, truths, and ends so; blocks 1 and 2 take a number, block 3 nothing."""
        blocks = [Block([0, 1, 2, 3], rows, end), Block([10], [], Back(n(10))),
                  Block([11], [Row(12, "neg", None, [n(11)])], Back(n(12))), Block([], [], third)]
        used, found = [0], [0]
        while used:
            for edge, handed in blocks[used.pop()].end.edges():
                if edge[0] not in found:
                    found.append(edge[0])
                    used.append(edge[0])
        for number in range(4):
            if number not in found:
                raise AssertionError("a block to which nobody comes")
        return Code({"main": made([NUM, NUM, TRUTH, TRUTH], NUM, *blocks, n2=TRUTH, n3=TRUTH)})

    def all_of(self, end):
        """The end, in a fork of which all blocks are come to."""
        return self.fork(Risk("call", "main", [n(0), n(1), n(2), n(3)], (1, ()), [
            ("a", (2, (n(0),))), ("b", (3, ()))]), end)

    PARTNERS = [0, 1, 2, 3]

    def paper(self):
        return sheet(self.PARTNERS, n10=n(10), n11=n(11), n12=n(12), **TAKEN)

    def test_each_kind_by_each_other(self):
        ends = [Jump((1, (n(0),))), Branch(n(2), (1, (n(0),)), (2, (n(1),))), Back(n(0)), Raise("oops"),
                Risk("div", None, [n(0), n(1)], (1, ()), [("zero", (2, (n(1),)))]),
                Risk("call", "main", [n(0), n(1), n(2), n(3)], (1, ()), [("zero", (2, (n(1),)))])]
        for one in ends:
            for other in ends:
                paper = self.paper()
                if one is other:
                    self.let_by(self.all_of(one), self.all_of(other), paper, [])
                else:
                    self.not_let_by(self.all_of(one), self.all_of(other), paper)

    def near(self, end, *others):
        self.let_by(self.all_of(end), self.all_of(end), self.paper(), [])
        for other in others:
            self.not_let_by(self.all_of(end), self.all_of(other), self.paper())
            self.not_let_by(self.all_of(other), self.all_of(end), self.paper())

    def test_put_otherwise(self):
        self.near(Jump((1, (n(0),))), Jump((2, (n(0),))), Jump((1, (n(1),))), Jump((1, (num(0),))))
        self.near(Back(n(0)), Back(n(1)), Back(num(0)))
        self.near(Raise("oops"), Raise("zero"), Raise("oop"))
        one, other = (1, (n(0),)), (2, (n(1),))
        self.near(Branch(n(2), one, other), Branch(n(3), one, other), Branch(n(2), other, one), Branch(n(2), one, one),
                  Branch(n(2), (1, (n(1),)), other), Branch(n(2), one, (2, (n(0),))), Branch(YES, one, other))
        self.near(Risk("div", None, [n(0), n(1)], (1, ()), [("zero", other)]),
                  Risk("mod", None, [n(0), n(1)], (1, ()), [("zero", other)]),
                  Risk("div", None, [n(1), n(0)], (1, ()), [("zero", other)]),
                  Risk("div", None, [n(0), num(2)], (1, ()), [("zero", other)]),
                  Risk("div", None, [n(0), n(1)], (2, ()), [("zero", other)]),
                  Risk("div", None, [n(0), n(1)], (1, ()), []),
                  Risk("div", None, [n(0), n(1)], (1, ()), [("great", other)]),
                  Risk("div", None, [n(0), n(1)], (1, ()), [("zero", (2, (n(0),)))]),
                  Risk("div", None, [n(0), n(1)], (1, ()), [("zero", (1, (n(1),)))]),
                  Risk("div", None, [n(0), n(1)], (1, ()), [("zero", other), ("great", other)]))
        asked = [n(0), n(1), n(2), n(3)]
        self.near(Risk("call", "main", asked, (1, ()), [("a", other), ("b", one)]),
                  Risk("call", "main", asked, (1, ()), [("b", other), ("a", one)]),
                  Risk("call", "main", asked, (1, ()), [("b", one), ("a", other)]),
                  Risk("call", "main", [n(1), n(0), n(2), n(3)], (1, ()), [("a", other), ("b", one)]),
                  Risk("call", "main", [n(0), n(1), n(3), n(2)], (1, ()), [("a", other), ("b", one)]))

    def test_another_function_called(self):
        def code(called):
            f = alone([], Back(n(0)), (NUM,)).functions["main"]
            main = made([NUM], NUM, Block([0], [], Risk("call", called, [n(0)], (1, ()), [])),
                        Block([1], [], Back(n(1))))
            return Code({"f": f, "g": f, "main": main})
        self.let_by(code("f"), code("f"), same_paper(code("f")), [])
        self.not_let_by(code("f"), code("g"), same_paper(code("f")))

    def test_partners_that_are_not_told(self):
        code = self.all_of(Jump((1, (n(0),))))
        for gone in range(1, 4):
            paper = self.paper()
            del paper["main"][0][gone]
            self.not_let_by(code, code, paper)

    def test_ends_whose_reads_were_folded(self):
        rows = [Row(20, "sub", None, [n(0), n(0)]), Row(21, "same", None, [n(0), n(0)])]

        def code(end, rows=()):
            return Code({"main": made([NUM, NUM], NUM, Block([0, 1], rows, end), Block([2], [], Back(n(2))),
                                      n21=TRUTH)})
        paper = sheet([0, 1], n0=n(0), n1=n(1), n2=n(2), n20=num(0), n21=YES)
        for end, other in [
            (Branch(n(21), (1, (n(0),)), (1, (n(1),))), Branch(YES, (1, (n(0),)), (1, (n(1),)))),
            (Risk("div", None, [n(1), n(20)], (1, ()), [("zero", (1, (n(20),)))]),
             Risk("div", None, [n(1), num(0)], (1, ()), [("zero", (1, (num(0),)))])),
            (Jump((1, (n(20),))), Jump((1, (num(0),)))),
            # An end that is known may stay as it is.
            (Risk("mul", None, [n(20), n(20)], (1, ()), []), Risk("mul", None, [num(0), num(0)], (1, ()), [])),
        ]:
            self.only("plain", code(end, rows), code(other), paper)
            paper_without = {"main": (paper["main"][0], {0: n(0), 1: n(1), 2: n(2)})}
            self.not_let_by(code(end, rows), code(other), paper_without)


class KnownEnds(Walks):
    """Point 74, known."""

    def three(self, end, more=True):
        """Block 0 ends so; block 1 takes two numbers, block 2 one."""
        blocks = [Block([0, 1], [], end), Block([2, 3], [noted(n(2))], Back(n(3))), Block([4], [noted(n(4))],
                                                                                          Back(num(5)))]
        return Code({"main": made([NUM, NUM], NUM, *(blocks if more else blocks[:2]))})

    def other(self, end):
        """Block 1 is the one that took one number."""
        return Code({"main": made([NUM, NUM], NUM, Block([0, 1], [], end), Block([4], [noted(n(4))], Back(num(5))))})

    def alone(self, end):
        return Code({"main": made([NUM, NUM], NUM, Block([0, 1], [], end))})

    NAMES = {"n0": n(0), "n1": n(1), "n2": n(2), "n3": n(3)}
    FIRST = sheet([0, 1], **NAMES)
    SECOND = {"main": ({0: 0, 2: 1}, {0: n(0), 1: n(1), 4: n(4)})}
    NONE = sheet([0], n0=n(0), n1=n(1))

    def test_branches(self):
        one, other = (1, (n(0), n(1))), (2, (n(1),))
        yes, no = self.three(Branch(YES, one, other)), self.three(Branch(NO, one, other))
        self.only("known", yes, self.three(Jump(one), False), self.FIRST)
        self.only("known", no, self.other(Jump((1, (n(1),)))), self.SECOND)
        self.not_let_by(no, self.three(Jump(one), False), self.FIRST)
        self.not_let_by(yes, self.other(Jump((1, (n(1),)))), self.SECOND)
        self.not_let_by(yes, self.three(Jump((1, (n(1), n(0)))), False), self.FIRST)
        self.not_let_by(yes, self.three(Jump((1, (n(0), num(1)))), False), self.FIRST)
        self.not_let_by(yes, self.alone(Raise("zero")), self.NONE)
        self.not_let_by(yes, self.alone(Back(n(0))), self.NONE)

    def test_a_test_that_is_no_constant(self):
        one = (1, (n(0), n(1)))
        ahead = Code({"main": made([NUM, NUM, TRUTH], NUM, Block([0, 1, 9], [], Branch(n(9), one, one)),
                                   Block([2, 3], [], Back(n(3))), n9=TRUTH)})
        behind = Code({"main": made([NUM, NUM, TRUTH], NUM, Block([0, 1, 9], [], Jump(one)), Block([2, 3], [],
                                                                                                   Back(n(3))),
                                    n9=TRUTH)})
        self.not_let_by(ahead, behind, sheet([0, 1], n9=n(9), **self.NAMES))
        self.not_let_by(ahead, behind, sheet([0, 1], **self.NAMES))
        self.not_let_by(ahead, behind, sheet([0, 1], n9=YES, **self.NAMES))
        self.not_let_by(behind, ahead, sheet([0, 1], n9=n(9), **self.NAMES))

    def test_a_test_that_was_folded(self):
        one, other = (1, (n(0), n(1))), (2, (n(1),))
        code = self.three(Branch(n(8), one, other))
        main = changed(code.functions["main"], rows=[Row(8, "less", None, [num(1), num(2)])], kinds={8: TRUTH})
        paper = {"main": ({0: 0, 1: 1}, {0: n(0), 1: n(1), 2: n(2), 3: n(3), 8: YES})}
        behind = self.three(Jump(one), False)
        self.let_by(Code({"main": main}), behind, paper, ["known", "fold"])
        self.not_let_by(Code({"main": main}), behind, paper, ["known"])
        self.not_let_by(Code({"main": main}), behind, paper, ["fold"])

    def test_risks_done_well(self):
        for op, asked, result in [("mul", (6, -7), -42), ("div", (-7, 2), -4), ("mod", (-7, 2), 1)]:
            operands = [num(value) for value in asked]
            ahead = self.three(Risk(op, None, operands, (1, (n(1),)), [("zero", (2, (n(0),)))]))
            self.only("known", ahead, self.three(Jump((1, (num(result), n(1)))), False), self.FIRST)
            for wrong in [(num(result + 1), n(1)), (n(1), num(result)), (n(0), n(1)), (num(result), n(0))]:
                self.not_let_by(ahead, self.three(Jump((1, wrong)), False), self.FIRST)
            self.not_let_by(ahead, self.other(Jump((1, (n(0),)))), self.SECOND)
            self.not_let_by(ahead, self.alone(Raise("zero")), self.NONE)

    def test_risks_that_fault(self):
        great = num(10 ** 30)
        for op, operands, fault in [("mul", [great, great], "great"), ("div", [num(1), num(0)], "zero"),
                                    ("mod", [num(0), num(0)], "zero")]:
            for others in [[], [("oops", (1, (n(0), n(0))))]]:
                caught = self.three(Risk(op, None, operands, (1, (n(1),)), others + [(fault, (2, (n(0),)))]))
                self.only("known", caught, self.other(Jump((1, (n(0),)))), self.SECOND)
                self.not_let_by(caught, self.other(Jump((1, (n(1),)))), self.SECOND)
                self.not_let_by(caught, self.alone(Raise(fault)), self.NONE)
                self.not_let_by(caught, self.three(Jump((1, (num(1), n(1)))), False), self.FIRST)
            lost = self.three(Risk(op, None, operands, (1, (n(1),)), [("oops", (2, (n(0),)))]))
            self.only("known", lost, self.alone(Raise(fault)), self.NONE)
            self.not_let_by(lost, self.alone(Raise("oops")), self.NONE)
            self.not_let_by(lost, self.alone(Back(n(0))), self.NONE)
            self.not_let_by(lost, self.other(Jump((1, (n(0),)))), self.SECOND)

    def test_risks_that_are_not_known(self):
        asked = {"mul": [n(0), num(0)], "div": [num(4), n(1)], "mod": [n(0), n(1)]}
        for op, operands in asked.items():
            ahead = self.three(Risk(op, None, operands, (1, (n(1),)), [("oops", (2, (n(0),)))]))
            for value in [0, 1, 4]:
                self.not_let_by(ahead, self.three(Jump((1, (num(value), n(1)))), False), self.FIRST)
            self.not_let_by(ahead, self.alone(Raise("zero")), self.NONE)

    def test_a_call_is_never_known(self):
        f = made([], NUM, Block([], [], Back(num(3))))
        main = made([], NUM, Block([], [], Risk("call", "f", [], (1, ()), [])), Block([0], [], Back(n(0))))
        behind = made([], NUM, Block([], [], Jump((1, (num(3),)))), Block([0], [], Back(n(0))))
        paper = {"f": ({0: 0}, {}), "main": ({0: 0, 1: 1}, {0: n(0)})}
        self.not_let_by(Code({"f": f, "main": main}), Code({"f": f, "main": behind}), paper)
        raising = made([], NUM, Block([], [], Raise("zero")))
        self.not_let_by(Code({"f": raising, "main": main}), Code({"f": raising, "main": raising}),
                        {"f": ({0: 0}, {}), "main": ({0: 0}, {})})

    def test_rows_are_no_constants(self):
        def code(end):
            return Code({"main": made([("row", 1)], NUM, Block([0], [], end), Block([1], [], Back(n(1))),
                                      n0=("row", 1))})
        ahead, behind = code(Risk("pick", None, [n(0), num(0)], (1, ()), [])), code(Jump((1, (num(7),))))
        for image in [n(0), num(0), num(7)]:
            self.not_let_by(ahead, behind, sheet([0, 1], n0=image, n1=n(1)))

    def test_the_other_ways_are_not_looked_at(self):
        # Two edges to one block: the one that isn't known hands something else.
        ahead = Code({"main": made([NUM, NUM], NUM, Block([0, 1], [], Branch(YES, (1, (n(0),)), (1, (n(1),)))),
                                   Block([2], [], Back(n(2))))})
        behind = Code({"main": made([NUM, NUM], NUM, Block([0, 1], [], Jump((1, ()))), Block([], [], Back(n(0))))})
        paper = sheet([0, 1], n0=n(0), n1=n(1), n2=n(0))
        self.let_by(ahead, behind, paper, ["known", "param"])
        self.not_let_by(ahead, behind, paper, ["known"])
        self.not_let_by(ahead, behind, paper, ["param"])
        self.not_let_by(ahead, behind, sheet([0, 1], n0=n(0), n1=n(1), n2=n(1)))


class Params(Walks):
    """Point 75."""

    def test_of_block_0(self):
        code = alone([], Back(n(0)))
        self.let_by(code, code, sheet([0], **TAKEN), [])
        for amiss in [{"n0": n(1)}, {"n1": n(0)}, {"n0": num(0)}, {"n2": n(3)}, {"n2": YES}, {"n0": n(1), "n1": n(0)}]:
            self.not_let_by(code, code, sheet([0], **{**TAKEN, **amiss}))
        renamed = Code({"main": made([NUM, NUM], NUM, Block([7, 8], [], Back(n(7))))})
        two = single([], Back(n(0)), [NUM, NUM])
        self.let_by(two, renamed, sheet([0], n0=n(7), n1=n(8)), [])
        self.not_let_by(two, renamed, sheet([0], n0=n(8), n1=n(7)))

    def loop(self, begin, again, params=(2, 3), last=n(3)):
        """Block 1 goes round with these args, from block 0 and from block 2."""
        return Code({"main": made([NUM, NUM, TRUTH], NUM, Block([0, 1, 9], [], Jump((1, begin))),
                                  Block(params, [TICK], Branch(n(9), (2, ()), (3, ()))),
                                  Block([], [noted(last)], Jump((1, again))), Block([], [], Back(last)), n9=TRUTH)})

    def sheet(self, **images):
        return sheet([0, 1, 2, 3], n0=n(0), n1=n(1), n9=n(9), **images)

    def test_by_params_of_the_partner(self):
        ahead = self.loop((n(0), n(1)), (n(3), n(2)))
        self.let_by(ahead, ahead, self.sheet(n2=n(2), n3=n(3)), [])
        turned = self.loop((n(1), n(0)), (n(3), n(2)), (3, 2))
        self.assertTrue(is_fit(turned))
        self.not_let_by(ahead, turned, self.sheet(n2=n(2), n3=n(3)))
        turned = self.loop((n(1), n(0)), (n(2), n(3)), (3, 2))
        self.let_by(ahead, turned, self.sheet(n2=n(2), n3=n(3)), [])
        self.not_let_by(ahead, ahead, self.sheet(n2=n(3), n3=n(2)))
        for begin, again in [((n(0), n(0)), (n(3), n(2))), ((n(1), n(0)), (n(3), n(2))), ((n(0), n(1)), (n(2), n(3))),
                             ((n(0), n(1)), (n(3), n(3))), ((n(0), num(1)), (n(3), n(2)))]:
            self.not_let_by(ahead, self.loop(begin, again), self.sheet(n2=n(2), n3=n(3)))
            self.not_let_by(self.loop(begin, again), ahead, self.sheet(n2=n(2), n3=n(3)))

    def test_params_that_have_no_image(self):
        ahead = self.loop((n(0), n(1)), (n(2), n(3)))
        self.let_by(ahead, self.loop((n(1),), (n(3),), (3,)), self.sheet(n3=n(3)), [])
        self.not_let_by(ahead, self.loop((n(1),), (n(3),), (3,)), self.sheet(n2=n(2), n3=n(3)))
        # What has none is handed on to what has one.
        self.not_let_by(self.loop((n(0), n(1)), (n(3), n(2))), self.loop((n(1),), (n(3),), (3,)), self.sheet(n3=n(3)))

    def test_two_params_by_one(self):
        ahead = self.loop((n(0), n(0)), (n(3), n(2)))
        behind = self.loop((n(0),), (n(3),), (3,))
        self.let_by(ahead, behind, self.sheet(n2=n(3), n3=n(3)), [])
        self.not_let_by(self.loop((n(0), n(1)), (n(3), n(2))), behind, self.sheet(n2=n(3), n3=n(3)))

    def test_param(self):
        ahead = self.loop((n(0), n(1)), (n(0), n(3)))
        behind = self.loop((), (), (), n(1))
        self.only("param", ahead, behind, self.sheet(n2=n(0), n3=n(1)))
        self.only("param", ahead, self.loop((n(0),), (n(0),), (2,), n(1)), self.sheet(n2=n(2), n3=n(1)))
        for two, three in [(n(1), n(1)), (n(0), n(0)), (num(0), n(1)), (n(0), num(1))]:
            self.not_let_by(ahead, behind, self.sheet(n2=two, n3=three))
        self.not_let_by(self.loop((n(0), n(1)), (n(3), n(2))), behind, self.sheet(n2=n(0), n3=n(1)))
        self.not_let_by(self.loop((n(0), n(1)), (n(2), n(0))), behind, self.sheet(n2=n(0), n3=n(1)))

    def test_param_with_constants(self):
        ahead = self.loop((num(4), num(5)), (n(2), num(5)))
        behind = self.loop((), (), (), num(5))
        self.only("param", ahead, behind, self.sheet(n2=num(4), n3=num(5)))
        self.not_let_by(ahead, behind, self.sheet(n2=num(5), n3=num(5)))
        self.not_let_by(self.loop((num(4), num(5)), (n(2), num(6))), behind, self.sheet(n2=num(4), n3=num(5)))
        self.not_let_by(self.loop((num(4), n(0)), (n(2), num(5))), behind, self.sheet(n2=num(4), n3=num(5)))

    def test_params_that_stand_for_one_another(self):
        # Both have the image of what was handed at first.
        ahead = self.loop((n(1), n(1)), (n(3), n(2)))
        self.only("param", ahead, self.loop((), (), (), n(1)), self.sheet(n2=n(1), n3=n(1)))

    def test_the_image_is_given_in_a_block_that_rules_the_partner(self):
        def code(end, last, rows=(), params=(5,)):
            return Code({"main": made([TRUTH, NUM], NUM, Block([0, 1], [], Branch(n(0), (1, ()), (2, ()))),
                                      Block([], [Row(2, "neg", None, [n(1)])], Jump((3, end[0]))),
                                      Block([], [], Jump((3, end[1]))),
                                      Block(params, rows, Back(last)), n0=TRUTH)})
        paper = sheet([0, 1, 2, 3], n0=n(0), n1=n(1), n2=n(2))
        images = paper["main"][1]
        # A param of the block itself: by the second way, not by the third.
        ahead = code([(n(1),), (n(1),)], n(5))
        images[5] = n(1)
        self.only("param", ahead, code([(), ()], n(1), params=()), paper)
        # The name of a row of the partner itself is given behind the edge.
        images[5] = n(8)
        images[6] = n(8)
        ahead = code([(n(1),), (n(1),)], n(5), [Row(6, "add", None, [n(1), num(1)])])
        behind = code([(), ()], n(8), [Row(8, "add", None, [n(1), num(1)])], ())
        self.not_let_by(ahead, behind, paper)
        # A name that is given in a block that doesn't rule it.
        images[5] = n(2)
        images.pop(6)
        ahead = code([(n(2),), (n(1),)], num(0))
        self.not_let_by(ahead, code([(), ()], num(0), params=()), paper)
        self.not_let_by(code([(n(2),), (num(3),)], num(0)), code([(), ()], num(0), params=()), paper)

    def test_param_with_a_name_that_the_partner_itself_gives(self):
        row = Row(5, "neg", None, [n(0)])
        ahead = Code({"main": made([NUM], NUM, Block([0], [row], Jump((1, (n(5),)))), Block([6], [], Back(n(6))))})
        within = Code({"main": made([NUM], NUM, Block([0], [], Jump((1, ()))), Block([], [row], Back(n(5))))})
        ahead_of_it = Code({"main": made([NUM], NUM, Block([0], [row], Jump((1, ()))), Block([], [], Back(n(5))))})
        paper = sheet([0, 1], n0=n(0), n5=n(5), n6=n(5))
        self.only("param", ahead, ahead_of_it, paper)
        self.not_let_by(ahead, within, paper)

    def test_param_with_a_name_of_a_block_that_does_not_rule_the_partner(self):
        row = Row(5, "neg", None, [n(0)])

        def code(first, side, args, params):
            return Code({"main": made([NUM, TRUTH], NUM, Block([0, 1], first, Branch(n(1), (1, ()), (2, ()))),
                                      Block([], side, Jump((3, args))), Block([], [], Jump((3, args))),
                                      Block(params, [], Back(num(7))), n1=TRUTH)})
        ahead = code([row], [], (n(5),), [6])
        paper = sheet([0, 1, 2, 3], n0=n(0), n1=n(1), n5=n(5), n6=n(5))
        self.only("param", ahead, code([row], [], (), []), paper)
        self.not_let_by(ahead, code([], [row], (), []), paper)
        without = sheet([0, 1, 2, 3], n0=n(0), n1=n(1), n5=n(5))
        self.only("moved", ahead, code([], [row], (), []), without)

    def risk(self, op, extra, asked, edge, catch, params, last):
        f = made([NUM], NUM, Block([0], [], Back(n(0))))
        main = made([NUM, NUM], NUM, Block([0, 1], [], Risk(op, extra, asked, (1, edge), [("zero", (1, catch))])),
                    Block(params, [noted(last)], Back(last)))
        return Code({"f": f, "main": main})

    def test_results(self):
        same = {"f": ({0: 0}, {0: n(0)})}
        for op, extra, asked in [("div", None, [n(0), n(1)]), ("call", "f", [n(0)])]:
            ahead = self.risk(op, extra, asked, (n(1),), (n(0), n(1)), [2, 3], n(2))
            paper = {**same, **sheet([0, 1], n0=n(0), n1=n(1), n2=n(2), n3=n(3))}
            self.let_by(ahead, ahead, paper, [])
            behind = self.risk(op, extra, asked, (), (n(0),), [2], n(2))
            self.only("param", ahead, behind, {**same, **sheet([0, 1], n0=n(0), n1=n(1), n2=n(2), n3=n(1))})
            self.let_by(ahead, behind, {**same, **sheet([0, 1], n0=n(0), n1=n(1), n2=n(2))}, [])
            # The result has no other image than the result behind.
            turned = self.risk(op, extra, asked, (n(1),), (n(1), n(0)), [3, 2], n(2))
            self.not_let_by(ahead, turned, paper)
            for image in [n(0), n(1), num(0), num(3)]:
                wrong = {**same, **sheet([0, 1], n0=n(0), n1=n(1), n2=image)}
                self.not_let_by(ahead, self.risk(op, extra, asked, (), (n(0),), [2], image), wrong)
            handed = self.risk(op, extra, asked, (n(1),), (n(0), n(1)), [2, 3], n(3))
            self.not_let_by(ahead, handed, {**same, **sheet([0, 1], n0=n(0), n1=n(1), n2=n(3))})

    def known_result(self, end, params, last):
        """Two blocks lead to block 3, one of them by a risk or what stands for it."""
        return Code({"main": made([TRUTH, NUM], NUM, Block([0, 1], [], Branch(n(0), (1, ()), (2, ()))),
                                  Block([], [], end), Block([], [], Jump((3, tuple([num(42), n(1)][:len(params)])))),
                                  Block(params, [noted(last)], Back(last)), n0=TRUTH)})

    def test_results_that_are_known(self):
        risk = Risk("mul", None, [num(6), num(7)], (3, (n(1),)), [])
        ahead = self.known_result(risk, [2, 3], n(2))
        names = {"n0": n(0), "n1": n(1)}
        behind = self.known_result(Jump((3, (num(42), n(1)))), [2, 3], n(2))
        self.only("known", ahead, behind, sheet([0, 1, 2, 3], n2=n(2), n3=n(3), **names))
        none = self.known_result(Jump((3, ())), [], num(42))
        paper = sheet([0, 1, 2, 3], n2=num(42), n3=n(1), **names)
        self.let_by(ahead, none, paper, ["known", "param"])
        self.not_let_by(ahead, none, paper, ["known"])
        self.not_let_by(ahead, none, paper, ["param"])
        other = self.known_result(Risk("mul", None, [num(6), num(8)], (3, (n(1),)), []), [2, 3], n(2))
        self.not_let_by(other, none, paper)
        self.not_let_by(other, behind, sheet([0, 1, 2, 3], n2=n(2), n3=n(3), **names))
        # Of an end that stays a risk the result is no constant.
        kept = self.known_result(risk, [2, 3], num(42))
        self.not_let_by(ahead, kept, sheet([0, 1, 2, 3], n2=num(42), n3=n(3), **names))

    def test_an_edge_along_which_the_param_itself_is_handed(self):
        # Block 1 hands its own param to itself, whatever else it is handed on.
        def code(params, begin, again, last):
            return Code({"main": made([NUM, TRUTH], NUM, Block([0, 1], [], Jump((1, begin))),
                                      Block(params, [TICK], Branch(n(1), (1, again), (2, ()))),
                                      Block([], [], Back(last)),
                                      n1=TRUTH)})
        ahead = code([2], (n(0),), (n(2),), n(2))
        self.only("param", ahead, code([], (), (), n(0)), sheet([0, 1, 2], n0=n(0), n1=n(1), n2=n(0)))

    def test_images_of_wrong_kinds(self):
        # Nothing is reckoned of values that don't fit, whatever the paper tells of them.
        for kind, row, result in [
            (WIDE, Row(2, "get", 0, [n(1)]), NUM), (WIDE, Row(2, "put", 0, [n(1), num(5)]), WIDE),
            (NUM, Row(2, "neg", None, [n(1)]), NUM), (NUM, Row(2, "add", None, [n(1), n(1)]), NUM),
            (TRUTH, Row(2, "not", None, [n(1)]), TRUTH), (NUM, Row(2, "same", None, [n(1), num(1)]), TRUTH),
            (FLAG, Row(2, "copy", None, [n(1)]), FLAG), (FLAG, Row(2, "get", 0, [n(1)]), TRUTH),
        ]:
            code = Code({"main": made([kind], result, Block([0], [], Jump((1, (n(0),)))), Block([1], [row], Back(n(2))),
                                      n0=kind, n1=kind, n2=result)})
            for one in [num(3), num(1), YES, NO]:
                for other in [num(3), num(-1), num(2), YES, NO]:
                    self.not_let_by(code, code, sheet([0, 1], n0=n(0), n1=one, n2=other))
        for op, kinds in [("mul", [NUM, NUM]), ("div", [NUM, NUM]), ("pick", [WIDE, NUM]), ("lay", [WIDE, NUM, NUM])]:
            result = WIDE if op == "lay" else NUM
            names = [n(place) for place in range(len(kinds))]
            told = {"n" + str(place): kind for place, kind in enumerate(kinds)}
            one = Code({"main": made(kinds, result, Block(range(len(kinds)), [], Risk(op, None, names, (1, ()), [])),
                                     Block([9], [], Back(n(9))), n9=result, **told)})
            other = single([], Raise("range"), kinds, result, **told)
            for image in [num(3), YES, num(0)]:
                images = {text: image for text in told}
                self.not_let_by(one, other, sheet([0], **images))
                self.not_let_by(one, other, sheet([0, 0], **images))
                self.not_let_by(one, one, sheet([0, 1], n9=n(9), **images))


class ByChance(Walks):
    """Forms that were made rougher, and then something put otherwise in them or in the paper."""

    def ran_alike(self, sower, ahead, behind, say):
        takes = next(head[1] for head in sower.heads if head[0] == "main")
        for count in range(3):
            inputs = [sower.value(kind) for text, kind in takes]
            for budget in [0, 1, 2, 4, 9, 30]:
                one, other = run_blocks(ahead, inputs, budget), run_blocks(behind, inputs, budget)
                self.assertEqual(shown(one.seen()), shown(other.seen()), (say, inputs, budget))

    def test_rougher_forms_are_let_by(self):
        used = {}
        for seed in range(600):
            sower = Sower(seed, size=40)
            pair = Rougher(sown_code(sower), seed, 1 + seed % 7)
            need_fit(pair.ahead)
            self.let_by(pair.ahead, pair.behind, pair.paper)
            self.let_by(pair.ahead, pair.behind, pair.paper, sorted(pair.used - {"more"}))
            for reason in pair.used:
                used[reason] = used.get(reason, 0) + 1
            self.ran_alike(sower, pair.ahead, pair.behind, seed)
        self.assertGreater(min(used[reason] for reason in REASONS[1:]), 50, used)

    def test_whatever_is_let_by_does_the_same(self):
        came = {}
        for seed in range(2500):
            chance = Random(seed)
            sower = Sower(seed, size=chance.choice([15, 30, 45]))
            pair = Rougher(sown_code(sower), seed, chance.randrange(5))
            ahead, behind, paper = pair.ahead, pair.behind, pair.paper
            if chance.random() < 0.15:
                ahead, behind, paper = behind, ahead, same_paper(behind)
            for time in range(chance.choice([1, 1, 2])):
                sort = chance.choice(["paper", "paper", "ahead", "behind", "behind"])
                if sort == "paper":
                    paper = self.other_paper(paper, behind, chance)
                elif sort == "ahead":
                    ahead = self.other_code(ahead, chance)
                else:
                    behind = self.other_code(behind, chance)
            if not (is_fit(ahead) and is_fit(behind)):
                continue
            told = self.told(FULL, ahead, behind, paper)
            self.told(Walk(chance.sample(REASONS, chance.randrange(7))), ahead, behind, paper)
            came[told] = came.get(told, 0) + 1
            if told:
                self.ran_alike(sower, ahead, behind, seed)
        self.assertGreater(min(came[True], came[False]), 400, came)

    def other_paper(self, paper, behind, chance):
        text = chance.choice(sorted(paper))
        partners, images = map(dict, paper[text])
        function = behind.functions[text]
        sort = chance.choice(["gone", "gone", "image", "image", "image", "partner", "block"])
        if sort == "gone" and images:
            images.pop(chance.choice(sorted(images)))
        elif sort == "image" and images:
            some = [n(name) for name in function.kinds] + [num(0), num(1), num(3), YES, NO]
            images[chance.choice(sorted(images))] = chance.choice(some)
        elif sort == "partner":
            one, other = chance.choice(sorted(partners)), chance.choice(sorted(partners))
            partners[one], partners[other] = partners[other], partners[one]
        elif len(partners) > 1:
            partners.pop(chance.choice(sorted(partners)[1:]))
        return {**paper, text: (partners, images)}

    def other_code(self, code, chance):
        text = chance.choice(code.names())
        function = code.functions[text]
        number = chance.randrange(len(function.blocks))
        block = function.blocks[number]
        rows = list(block.rows)
        some = [n(name) for name in function.kinds] + [num(0), num(1), YES, NO]
        names = {chance.choice(sorted(function.kinds)): chance.choice(some)} if function.kinds else {}
        sort = chance.choice(["operands", "end", "edges", "swap", "gone", "more", "name", "op"])
        place = chance.randrange(len(rows)) if rows else 0
        parts = {}
        if sort == "operands" and rows:
            rows[place] = rows[place].moved(names, {})
        elif sort == "end":
            parts["end"] = block.end.moved(names, {})
        elif sort == "edges":
            count = len(function.blocks)
            parts["end"] = block.end.moved({}, {chance.randrange(count): chance.randrange(count)})
        elif sort == "swap" and len(rows) > 1:
            rows[place - 1], rows[place] = rows[place], rows[place - 1]
        elif sort == "gone" and rows:
            gone = rows.pop(place)
            parts["without"] = [gone.name] if gone.name is not None else []
        elif sort == "more":
            rows.insert(place, chance.choice([TICK, noted(chance.choice(some)), Row(90000, "neg", None,
                                                                                    [chance.choice(some)])]))
            parts["kinds"] = {90000: NUM} if rows[place].name == 90000 else {}
        elif sort == "op" and rows:
            line = rows[place]
            turned = {"add": "sub", "sub": "add", "less": "same", "and": "or", "not": "copy", "neg": "copy"}
            rows[place] = Row(line.name, turned.get(line.op, line.op), line.extra, line.operands[::-1])
        return code.with_function(text, changed(function, number, rows=rows, **parts))


if __name__ == "__main__":
    unittest.main()
