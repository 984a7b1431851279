"""Points 4, 6 and 80: what rewritings share, and the paper by which a code is its own behind."""

import unittest

from eachstepsame.blocks import Back, Block, Branch, Code, Jump, Row
from eachstepsame.fits import is_fit
from eachstepsame.folding import Fold
from eachstepsame.rewriting import Rewriting, same_paper
from eachstepsame.walk import REASONS, Walk
from tests.helper import NUM, TRUTH, YES, Rougher, Sower, made, n, num, sample_code, shown, single, sown_code, things

FOLDED = single([Row(1, "add", None, [num(1), num(2)])], Back(n(1)), [NUM])
COPIED = single([Row(1, "copy", None, [n(0)])], Back(n(1)), [NUM])


class SamePaper(unittest.TestCase):
    def test_of_the_sample(self):
        paper = same_paper(sample_code())
        self.assertEqual(shown(paper), shown({
            "f": ({number: number for number in range(4)}, {name: n(name) for name in range(5)}),
            "g": ({0: 0}, {name: n(name) for name in [5, 6, 7]}),
            "main": ({number: number for number in range(8)}, paper["main"][1]),
        }))
        self.assertEqual(paper["main"][1], {name: n(name) for name in range(12)})

    def test_of_small_ones(self):
        self.assertEqual(same_paper(FOLDED), {"main": ({0: 0}, {0: n(0), 1: n(1)})})
        self.assertEqual(same_paper(single([], Back(num(1)))), {"main": ({0: 0}, {})})

    def test_it_is_the_askers_own(self):
        code = sample_code()
        kept = shown((code.told(), same_paper(code)))
        paper = same_paper(code)
        for partners, images in paper.values():
            partners.clear()
            images.clear()
        paper.clear()
        self.assertEqual(shown((code.told(), same_paper(code))), kept)

    def test_let_by_without_any_reason(self):
        for seed in range(300):
            pair = Rougher(sown_code(Sower(seed, size=40)), seed)
            for code in [pair.ahead, pair.behind]:
                self.assertTrue(Walk(()).lets_by(code, code, same_paper(code)))
                self.assertTrue(Walk(REASONS).lets_by(code, code, same_paper(code)))
                self.assertTrue(Fold().holds(code, code, same_paper(code)))


class Rewritings(unittest.TestCase):
    """What holds of each rewriting alike."""

    # A class, its title, its reasons, and reasons of which none can stand in for these: a constant that is copied is
    # folded too.
    ALL = [(Fold, "fold", ("fold", "plain"), ("moved", "known", "param"))]

    def test_titles(self):
        for made_of_nothing, title, reasons, without in self.ALL:
            self.assertIsInstance(made_of_nothing(), Rewriting)
            self.assertEqual(made_of_nothing().known_as(), title)

    def test_checkers_are_walks_of_their_reasons(self):
        for made_of_nothing, title, reasons, without in self.ALL:
            held = 0
            for seed in range(500):
                pair = Rougher(sown_code(Sower(seed, size=30)), seed, 1 + seed % 3)
                wanted = Walk(reasons).lets_by(pair.ahead, pair.behind, pair.paper)
                self.assertIs(made_of_nothing().holds(pair.ahead, pair.behind, pair.paper), wanted)
                held += wanted
            self.assertTrue(60 < held < 450, held)

    def test_any_thing_as_the_paper(self):
        for made_of_nothing, title, reasons, without in self.ALL:
            for thing in things():
                self.assertIs(made_of_nothing().holds(FOLDED, FOLDED, thing), False)

    def test_what_is_told_by_chance(self):
        for made_of_nothing, title, reasons, without in self.ALL:
            changes = 0
            for seed in range(400):
                code = Rougher(sown_code(Sower(seed, size=40)), seed, seed % 5).ahead
                kept = shown(code.told())
                told = made_of_nothing().tried(code)
                self.assertEqual(shown(code.told()), kept)
                if told is None:
                    continue
                changes += 1
                self.assertIs(told.__class__, tuple)
                behind, paper = told
                self.assertIsInstance(behind, Code)
                self.assertTrue(is_fit(behind))
                self.assertNotEqual(behind.told(), code.told())
                self.assertTrue(made_of_nothing().holds(code, behind, paper))
                self.assertFalse(Walk(without).lets_by(code, behind, paper))
                again = made_of_nothing().tried(code)
                self.assertEqual(shown((again[0].told(), again[1])), shown((behind.told(), paper)))
            self.assertGreater(changes, 100)

    def test_what_is_told_is_new(self):
        code = FOLDED.with_function("f", COPIED.functions["main"])
        kept = shown(code.told())
        behind, paper = Fold().tried(code)
        told = shown((behind.told(), paper))
        self.assertIsNot(behind.functions["f"].kinds, code.functions["f"].kinds)
        code.functions["f"].kinds.clear()
        code.functions.clear()
        self.assertEqual(shown((behind.told(), paper)), told)
        behind.functions["f"].kinds.clear()
        behind.functions.clear()
        paper["main"][1].clear()
        paper.clear()
        self.assertEqual(shown(code.told()), kept)
        again = Fold().tried(code)
        self.assertEqual(shown((again[0].told(), again[1])), told)


class FoldAsOne(unittest.TestCase):
    def test_nothing_changes(self):
        self.assertIsNone(Fold().tried(COPIED))
        self.assertIsNone(Fold().tried(single([], Back(num(1)))))

    def test_one_of_several_functions_changes(self):
        code = FOLDED.with_function("f", COPIED.functions["main"]).with_function("z", COPIED.functions["main"])
        behind, paper = Fold().tried(code)
        self.assertEqual(behind.names(), ["f", "main", "z"])
        for text in ["f", "z"]:
            self.assertEqual(behind.functions[text].told(), code.functions[text].told())
            self.assertEqual(shown(paper[text]), shown(({0: 0}, {0: n(0), 1: n(1)})))
        self.assertEqual(shown(paper["main"]), shown(({0: 0}, {0: n(0), 1: num(3)})))
        self.assertEqual(behind.functions["main"].told(), single([], Back(num(3)), [NUM]).functions["main"].told())

    def test_papers_of_others(self):
        # Each is let by by the full walk, and not by this one.
        taken = ({0: 0}, {0: n(0), 1: n(0)})
        copied = (COPIED, single([], Back(n(0)), [NUM]), {"main": taken})
        row = Row(1, "neg", None, [n(0)])
        here = Code({"main": made([NUM], NUM, Block([0], [row], Jump((1, ()))), Block([], [], Back(n(1))))})
        there = Code({"main": made([NUM], NUM, Block([0], [], Jump((1, ()))), Block([], [row], Back(n(1))))})
        branch = Code({"main": made([NUM], NUM, Block([0], [], Branch(YES, (1, ()), (1, ()))),
                                    Block([], [], Back(n(0))))})
        jump = Code({"main": made([NUM], NUM, Block([0], [], Jump((1, ()))), Block([], [], Back(n(0))))})
        handed = Code({"main": made([NUM], NUM, Block([0], [], Jump((1, (n(0),)))), Block([1], [], Back(n(1))))})
        for ahead, behind, paper in [
            copied, (here, there, same_paper(here)), (branch, jump, same_paper(branch)),
            (handed, jump, {"main": ({0: 0, 1: 1}, {0: n(0), 1: n(0)})}),
        ]:
            self.assertTrue(Walk(REASONS).lets_by(ahead, behind, paper))
            self.assertFalse(Fold().holds(ahead, behind, paper))

    def test_other_things_amiss(self):
        behind, paper = Fold().tried(FOLDED)
        self.assertTrue(Fold().holds(FOLDED, behind, paper))
        self.assertFalse(Fold().holds(behind, FOLDED, paper))
        self.assertFalse(Fold().holds(FOLDED, FOLDED, paper))
        self.assertFalse(Fold().holds(FOLDED, behind, same_paper(FOLDED)))
        self.assertFalse(Fold().holds(FOLDED, single([], Back(num(4)), [NUM]), paper))
        self.assertFalse(Fold().holds(FOLDED, behind, {**paper, "f": paper["main"]}))
        self.assertFalse(Fold().holds(FOLDED, single([], Back(YES), [NUM], TRUTH), paper))


if __name__ == "__main__":
    unittest.main()
