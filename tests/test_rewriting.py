"""Points 4, 5, 6 and 80: what rewritings share, and the paper by which a code is its own behind."""

import unittest
from random import Random

from eachstepsame.blockrun import run_blocks
from eachstepsame.blocks import Back, Block, Branch, Code, Jump, Raise, Risk, Row
from eachstepsame.copying import Copies
from eachstepsame.folding import Fold
from eachstepsame.inlining import PutIn
from eachstepsame.knowing import Known
from eachstepsame.lastcalls import LastCalls
from eachstepsame.likes import Likes
from eachstepsame.lowering import lowered
from eachstepsame.moving import Moved
from eachstepsame.passes import measure
from eachstepsame.rewriting import Rewriting, same_paper
from eachstepsame.sourcerun import run_source
from eachstepsame.typer import typed
from eachstepsame.unused import Unused
from eachstepsame.walk import REASONS, Walk
from tests.helper import (
    NO, NUM, TICK, TRUTH, YES, Drawer, Rougher, Sower, made, n, noted, num, sample_code, shown, single, sown_code,
    things,
)

FOLDED = single([Row(1, "add", None, [num(1), num(2)])], Back(n(1)), [NUM])
COPIED = single([Row(1, "copy", None, [n(0)])], Back(n(1)), [NUM])
KNOWN = Code({"main": made([NUM], NUM, Block([0], [], Branch(NO, (1, ()), (2, ()))), Block([], [], Back(num(1))),
                           Block([], [], Back(n(0))))})
UNUSED = single([Row(1, "neg", None, [n(0)])], Back(n(0)), [NUM])
LIKE = Code({"main": made([NUM], NUM, Block([0], [Row(1, "neg", None, [n(0)]), noted(n(1))], Jump((1, ()))),
                          Block([], [Row(2, "neg", None, [n(0)])], Back(n(2))))})
MOVED = Code({"main": made([NUM], NUM, Block([0], [], Jump((1, ()))), Block([], [
    TICK, Row(1, "neg", None, [n(0)]), Row(2, "less", None, [n(1), num(5)])], Branch(n(2), (1, ()), (2, ()))),
    Block([], [], Back(n(1))), n2=TRUTH)})
PUT_IN = Code({"main": made([NUM], NUM, Block([0], [], Risk("call", "g", [n(0)], (1, ()), [])),
                            Block([1], [], Back(n(1)))), "g": made([NUM], NUM, Block([0], [], Back(n(0))))})
LAST = Code({"main": made([NUM], NUM, Block([0], [noted(n(0))], Risk("call", "main", [n(0)], (1, ()), [])),
                          Block([1], [], Back(n(1))))})
# None of them changes anything here.
STAYING = Code({"main": made([NUM], NUM, Block([0], [], Risk("div", None, [n(0), n(0)], (1, ()), [])),
                             Block([1], [], Back(n(1))))})


class SamePaper(unittest.TestCase):
    def test_of_the_sample(self):
        paper = same_paper(sample_code())
        self.assertEqual(shown(paper), shown({
            "f": ({number: number for number in range(4)}, {name: n(name) for name in range(5)}),
            "g": ({0: 0}, {name: n(name) for name in [5, 6, 7]}),
            "main": ({number: number for number in range(8)}, paper["main"][1]),
        }))
        self.assertEqual(paper["main"][1], {name: n(name) for name in range(12)})

    def test_of_small_ones(self):
        self.assertEqual(same_paper(FOLDED), {"main": ({0: 0}, {0: n(0), 1: n(1)})})
        self.assertEqual(same_paper(single([], Back(num(1)))), {"main": ({0: 0}, {})})

    def test_it_is_the_askers_own(self):
        code = sample_code()
        kept = shown((code.told(), same_paper(code)))
        paper = same_paper(code)
        for partners, images in paper.values():
            partners.clear()
            images.clear()
        paper.clear()
        self.assertEqual(shown((code.told(), same_paper(code))), kept)

    def test_let_by_without_any_reason(self):
        for seed in range(300):
            pair = Rougher(sown_code(Sower(seed, size=40)), seed)
            for code in [pair.ahead, pair.behind]:
                self.assertTrue(Walk(()).lets_by(code, code, same_paper(code)))
                self.assertTrue(Walk(REASONS).lets_by(code, code, same_paper(code)))
                for made_of_nothing, title, reasons, changing in Rewritings.ALL:
                    self.assertTrue(made_of_nothing().holds(code, code, same_paper(code)))


class Rewritings(unittest.TestCase):
    """What holds of each rewriting alike."""

    # A class, its title, its reasons, and a code that it changes.
    ALL = [
        (Fold, "fold", ("fold", "plain"), FOLDED),
        (Copies, "copies", ("copy", "param"), COPIED),
        (Known, "known", ("known",), KNOWN),
        (Unused, "unused", (), UNUSED),
        (Likes, "likes", ("moved",), LIKE),
        (Moved, "moved", ("moved",), MOVED),
    ]
    # Those that change frames, likewise, but for reasons.
    FRAMES = [(PutIn, "putin", PUT_IN), (LastCalls, "lastcalls", LAST)]
    EVERY = [(entry[0], entry[1], entry[-1]) for entry in ALL] + FRAMES

    def test_titles(self):
        for made_of_nothing, title, code in self.EVERY:
            self.assertIsInstance(made_of_nothing(), Rewriting)
            self.assertEqual(made_of_nothing().known_as(), title)

    def test_checkers_are_walks_of_their_reasons(self):
        pairs = [Rougher(sown_code(Sower(seed, size=30)), seed, 1 + seed % 3) for seed in range(500)]
        for made_of_nothing, title, reasons, code in self.ALL:
            held = 0
            for pair in pairs:
                wanted = Walk(reasons).lets_by(pair.ahead, pair.behind, pair.paper)
                self.assertIs(made_of_nothing().holds(pair.ahead, pair.behind, pair.paper), wanted)
                held += wanted
            self.assertTrue(60 < held < 450, held)

    def test_papers_of_one_another(self):
        # The paper of each is let by by just those whose reasons allow it.
        for made_of_nothing, title, reasons, code in self.ALL:
            behind, paper = made_of_nothing().tried(code)
            for other, text, others, another in self.ALL:
                allowed = title in (text, "unused") or others == reasons
                self.assertIs(other().holds(code, behind, paper), allowed, (title, text))
            self.assertTrue(Walk(REASONS).lets_by(code, behind, paper))
            for other, text, another in self.FRAMES:
                self.assertIs(other().holds(code, behind, paper), False)
        for made_of_nothing, title, code in self.FRAMES:
            behind, paper = made_of_nothing().tried(code)
            for other, text, another in self.EVERY:
                self.assertIs(other().holds(code, behind, paper), title == text, (title, text))

    def test_any_thing_as_the_paper(self):
        for made_of_nothing, title, code in self.EVERY:
            behind = made_of_nothing().tried(code)[0]
            for thing in things():
                self.assertIs(made_of_nothing().holds(code, code, thing), False)
                self.assertIs(made_of_nothing().holds(code, behind, thing), False)

    def test_told_again(self):
        # The same question has the same answer, whatever was asked between.
        for made_of_nothing, title, changing in self.EVERY:
            changes, asked = 0, made_of_nothing()
            for seed in range(100):
                code = Drawer(seed, calls=0.8).code()
                if title == "lastcalls" and seed % 2:
                    code = code.with_function("last", renamed(changing.functions["main"], "last"))
                told, again = asked.tried(code), made_of_nothing().tried(code)
                if told is None:
                    self.assertIsNone(again)
                    continue
                changes += 1
                self.assertEqual(shown((again[0].told(), again[1])), shown((told[0].told(), told[1])))
            self.assertGreater(changes, 8)

    def test_what_is_told_is_new(self):
        for made_of_nothing, title, changing in self.EVERY:
            code = changing.with_function("f", STAYING.functions["main"])
            kept = shown(code.told())
            behind, paper = made_of_nothing().tried(code)
            told = shown((behind.told(), paper))
            self.assertIsNot(behind.functions["f"].kinds, code.functions["f"].kinds)
            code.functions["f"].kinds.clear()
            code.functions["main"].kinds.clear()
            code.functions.clear()
            self.assertEqual(shown((behind.told(), paper)), told)
            behind.functions["f"].kinds.clear()
            behind.functions["main"].kinds.clear()
            behind.functions.clear()
            for part in [part for sheet in paper.values() for part in sheet] if isinstance(paper, dict) else paper:
                if isinstance(part, (list, dict)):
                    part.clear()
            self.assertEqual(shown(code.told()), kept)
            again = made_of_nothing().tried(code)
            self.assertEqual(shown((again[0].told(), again[1])), told)

    def test_nothing_changes(self):
        for made_of_nothing, title, code in self.EVERY:
            self.assertIsNone(made_of_nothing().tried(STAYING))
            self.assertIsNone(made_of_nothing().tried(single([], Back(num(1)))))
            for other, text, another in self.EVERY:
                # What one leaves out is not for the others to leave out; but what is nobody's need is common.
                if title not in (text, "unused"):
                    self.assertIsNone(made_of_nothing().tried(another), (title, text))

    def test_one_of_several_functions_changes(self):
        staying = STAYING.functions["main"]
        for made_of_nothing, title, reasons, changing in self.ALL:
            alone = made_of_nothing().tried(changing)
            for texts in [["f", "z"], ["a"], ["n"]]:
                code = changing
                for text in texts:
                    code = code.with_function(text, staying)
                behind, paper = made_of_nothing().tried(code)
                self.assertEqual(behind.names(), sorted(texts + ["main"]))
                self.assertEqual(sorted(paper), sorted(texts + ["main"]))
                for text in texts:
                    self.assertEqual(behind.functions[text].told(), staying.told())
                    self.assertEqual(shown(paper[text]), shown(({0: 0, 1: 1}, {0: n(0), 1: n(1)})))
                self.assertEqual(shown(paper["main"]), shown(alone[1]["main"]))
                self.assertEqual(behind.functions["main"].told(), alone[0].functions["main"].told())
                self.assertTrue(made_of_nothing().holds(code, behind, paper))
            # One that changes beside a main that stays.
            code = STAYING.with_function("f", changing.functions["main"])
            behind, paper = made_of_nothing().tried(code)
            self.assertEqual(behind.functions["main"].told(), staying.told())
            self.assertEqual(behind.functions["f"].told(), alone[0].functions["main"].told())
            self.assertEqual(shown(paper["f"]), shown(alone[1]["main"]))

    def test_several_functions_change(self):
        for made_of_nothing, title, reasons, changing in self.ALL:
            alone = made_of_nothing().tried(changing)
            code = changing.with_function("f", changing.functions["main"])
            behind, paper = made_of_nothing().tried(code)
            for text in ["f", "main"]:
                self.assertEqual(behind.functions[text].told(), alone[0].functions["main"].told())
                self.assertEqual(shown(paper[text]), shown(alone[1]["main"]))


def renamed(function, text):
    """The function with all its calls of others as calls of this one."""
    blocks = [Block(block.params, block.rows, Risk("call", text, block.end.asked, block.end.edge, block.end.catches)
                    if isinstance(block.end, Risk) else block.end) for block in function.blocks]
    return made(function.takes, function.gives, *blocks)


class OneBehindTheOther(unittest.TestCase):
    """Points 5 and 6: in whatever order they are gone through, each does the same, and there is an end."""

    def gone_through(self, code, seed):
        chance, waiting, ahead = Random(seed), [], code
        while True:
            if not waiting:
                waiting = [entry[0] for entry in Rewritings.EVERY]
                chance.shuffle(waiting)
                changed = False
            rewriting = waiting.pop()()
            told = rewriting.tried(ahead)
            if told is not None:
                self.assertTrue(rewriting.holds(ahead, *told))
                self.assertLess(measure(told[0]), measure(ahead))
                ahead, changed = told[0], True
            if not waiting and not changed:
                return ahead

    def test_programs(self):
        less = 0
        for seed in range(150):
            sower = Sower(seed, size=80)
            tree = typed(sower.program())
            code = lowered(tree)
            ends = [self.gone_through(code, order) for order in range(2)]
            less += sum(measure(end) < measure(code) for end in ends)
            takes = next(head[1] for head in sower.heads if head[0] == "main")
            inputs = [sower.value(kind) for text, kind in takes]
            for budget in [0, 1, 3, 20]:
                wanted = shown(run_source(tree, inputs, budget).seen())
                for end in ends:
                    run = run_blocks(end, inputs, budget)
                    self.assertEqual(shown(run.seen()), wanted)
                    self.assertLessEqual(run.steps, end.width() * (run.took + 1))
        self.assertGreater(less, 100)

    def test_drawn_codes(self):
        for seed in range(150):
            drawer = Drawer(seed, size=10)
            code = drawer.code()
            ends = [self.gone_through(code, order) for order in range(2)]
            inputs = drawer.inputs()
            for budget in [0, 1, 3, 20]:
                wanted = shown(run_blocks(code, inputs, budget).seen())
                for end in ends:
                    self.assertEqual(shown(run_blocks(end, inputs, budget).seen()), wanted)


class Checkers(unittest.TestCase):
    def pairs(self):
        """Two codes and a paper that is let by just where a reason is allowed, and this reason."""
        taken = {"main": ({0: 0}, {0: n(0), 1: n(0)})}
        plain = single([Row(1, "add", None, [n(0), num(0)])], Back(n(1)), [NUM])
        row = Row(1, "neg", None, [n(0)])
        here = Code({"main": made([NUM], NUM, Block([0], [row], Jump((1, ()))), Block([], [], Back(n(1))))})
        there = Code({"main": made([NUM], NUM, Block([0], [], Jump((1, ()))), Block([], [row], Back(n(1))))})
        branch = Code({"main": made([NUM], NUM, Block([0], [], Branch(YES, (1, ()), (1, ()))),
                                    Block([], [], Back(n(0))))})
        jump = Code({"main": made([NUM], NUM, Block([0], [], Jump((1, ()))), Block([], [], Back(n(0))))})
        handed = Code({"main": made([NUM], NUM, Block([0], [], Jump((1, (n(0),)))), Block([1], [], Back(n(1))))})
        return [
            (COPIED, single([], Back(n(0)), [NUM]), taken, "copy"), (here, there, same_paper(here), "moved"),
            (plain, single([], Back(n(0)), [NUM]), taken, "plain"), (branch, jump, same_paper(branch), "known"),
            (FOLDED, single([], Back(num(3)), [NUM]), {"main": ({0: 0}, {0: n(0), 1: num(3)})}, "fold"),
            (handed, jump, {"main": ({0: 0, 1: 1}, {0: n(0), 1: n(0)})}, "param"),
        ]

    def test_each_reason(self):
        for ahead, behind, paper, reason in self.pairs():
            self.assertTrue(Walk(REASONS).lets_by(ahead, behind, paper))
            for made_of_nothing, title, reasons, code in Rewritings.ALL:
                self.assertIs(made_of_nothing().holds(ahead, behind, paper), reason in reasons, (title, reason))

    def test_papers_amiss(self):
        for made_of_nothing, title, reasons, code in Rewritings.ALL:
            behind, paper = made_of_nothing().tried(code)
            partners, images = paper["main"]
            self.assertTrue(made_of_nothing().holds(code, behind, paper))
            for amiss in [
                {}, {**paper, "f": paper["main"]}, {"f": paper["main"]}, {"main": [partners, images]},
                {"main": (partners,)}, {"main": (partners, images, {})}, {"main": (images, partners)},
                {"main": ({}, images)}, {"main": (partners, {})}, {"main": ({**partners, 0: False}, images)},
                {"main": (partners, {**images, 0: num(0)})}, {"main": (partners, {**images, 77: n(0)})},
                {"main": ({**partners, 7: 7}, images)}, [paper], None,
            ]:
                self.assertIs(made_of_nothing().holds(code, behind, amiss), False, (title, amiss))

    def test_codes_amiss(self):
        for made_of_nothing, title, reasons, code in Rewritings.ALL:
            behind, paper = made_of_nothing().tried(code)
            other = single([], Back(YES), [NUM], TRUTH)
            unfit = single([], Back(n(7)), [NUM])
            more = behind.with_function("f", STAYING.functions["main"])
            for one, two in [(code, other), (other, behind), (code, unfit), (unfit, behind), (code, more),
                             (code, STAYING), (STAYING, behind), (code, single([], Raise("oops"), [NUM]))]:
                self.assertIs(made_of_nothing().holds(one, two, paper), False, title)

    def test_turned_about(self):
        # Rows more are let by behind; so what is unused holds both ways, by the paper of what is there both times.
        for made_of_nothing, title, reasons, code in Rewritings.ALL:
            behind, paper = made_of_nothing().tried(code)
            # And where rows are but moved, they may be moved back.
            both = title in ("unused", "moved")
            self.assertIs(made_of_nothing().holds(behind, code, paper), both)
            self.assertIs(made_of_nothing().holds(code, code, paper), both)
            self.assertIs(made_of_nothing().holds(code, behind, same_paper(code)), title == "moved")


if __name__ == "__main__":
    unittest.main()
