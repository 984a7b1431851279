"""Points 4 to 6 and 120 to 125: the row of rewritings, chains, and the measure."""

import unittest
from itertools import permutations
from random import Random

from eachstepsame.blockrun import run_blocks
from eachstepsame.blocks import Back, Block, Branch, Code, Function, Jump, Raise, Risk, Row
from eachstepsame.copying import Copies
from eachstepsame.errors import NoPass, StepError
from eachstepsame.fits import need_fit
from eachstepsame.folding import Fold
from eachstepsame.inlining import PutIn
from eachstepsame.knowing import Known
from eachstepsame.lastcalls import LastCalls
from eachstepsame.likes import Likes
from eachstepsame.lowering import lowered
from eachstepsame.moving import Moved
from eachstepsame.passes import all_titles, chain, first_amiss, holds, measure
from eachstepsame.rewriting import same_paper
from eachstepsame.sourcerun import run_source
from eachstepsame.typer import typed
from eachstepsame.unused import Unused
from tests.helper import (
    NUM, TICK, TRUTH, YES, Drawer, Rougher, Sower, add, back, call, choice, fun, let, log, loop, made, n, name, neg,
    noted, num, one, put, refusal, sample_code, settled, shown, single, sown_code, things, told_edges, trying, two,
)

TITLES = ["fold", "copies", "known", "unused", "likes", "moved", "putin", "lastcalls"]
CLASSES = dict(zip(TITLES, [Fold, Copies, Known, Unused, Likes, Moved, PutIn, LastCalls]))


def chained_by_hand(code, titles):
    """A second reading of 121: round by round."""
    steps, rounds = [], []
    while not rounds or rounds[-1]:
        rounds.append(0)
        for title in titles:
            told = CLASSES[title]().tried(code)
            if told is not None:
                rounds[-1] += 1
                code = told[0]
                steps.append((title,) + told)
    return code, steps


def measured_by_hand(code):
    """A second reading of 123, from what the code tells; who rules whom is asked of each block by leaving it out."""
    calls = weight = rows = ruled = 0
    for text, (takes, gives, kinds, blocks) in code.told():
        ends = [end for params, lines, end in blocks]
        calls += sum(end[:2] == ("risk", "call") for end in ends)
        weight += sum({"jump": 1, "branch": 2, "risk": 2, "back": 0, "raise": 0}[end[0]] for end in ends)
        weight += sum(len(end[5]) for end in ends if end[0] == "risk")
        rows += sum(len(lines) for params, lines, end in blocks) + sum(len(params) for params, lines, end in blocks[1:])
        for shut in range(len(blocks)):
            come = [0] if shut else []
            for number in come:
                more = {edge[0] for edge, handed in told_edges([blocks[number]])}
                come.extend(sorted(more - set(come) - {shut}))
            ruled += sum(len(blocks[number][1]) for number in set(range(len(blocks))) - set(come) - {shut})
    return (calls, weight, rows, ruled)


def program():
    """A program on which each of the rewritings has something to do."""
    return ((), (
        fun("main", [("a", NUM), ("p", TRUTH)], NUM, let("s", num(0)), let("i", num(0)), let("u", one("-", name("a"))),
            choice(two("<", num(1), num(2)), [log(num(1))], [log(num(2))]), loop(
                two("<", name("i"), two("+", name("a"), num(2))),
                choice(two("and", name("p"), YES), [log(two("+", name("a"), num(2)))], [log(num(3))]),
                trying([put("s", two("+", name("s"), call("small", name("i"))))], ("zero", [put("s", num(5))])),
                put("i", two("+", name("i"), num(1)))), back(call("sum", name("s"), num(0)))),
        fun("small", [("b", NUM)], NUM, back(two("/", num(12), name("b")))),
        fun("sum", [("c", NUM), ("d", NUM)], NUM, choice(two("<", name("c"), num(1)), [back(name("d"))]),
            back(call("sum", two("-", name("c"), num(1)), two("+", name("d"), name("c")))))))


CODE = lowered(typed(program()))


def some_titles(chance):
    return [chance.choice(TITLES) for place in range(chance.randrange(12))]


class Titles(unittest.TestCase):
    def test_in_their_order(self):
        self.assertEqual(shown(all_titles()), shown(TITLES))
        self.assertEqual(all_titles(), [CLASSES[title]().known_as() for title in TITLES])

    def test_a_new_list(self):
        all_titles().clear()
        first = all_titles()
        first.append("more")
        first[0] = "other"
        self.assertEqual(shown(all_titles()), shown(TITLES))
        self.assertEqual(refusal(holds, "other", CODE, CODE, {}), ("NoPass", "other"))

    def test_checkers(self):
        # Each step of a chain is let by by its own checker, and told by each title as that one tells.
        code, held = CODE, set()
        for title, behind, paper in chain(CODE, TITLES)[1]:
            for other in TITLES:
                wanted = CLASSES[other]().holds(code, behind, paper)
                self.assertIs(holds(other, code, behind, paper), wanted)
                held.add((title, other, wanted))
            self.assertIs(holds(title, code, behind, paper), True)
            self.assertIs(holds(title, code, behind, None), False)
            code = behind
        self.assertEqual({title for title, other, wanted in held}, set(TITLES))
        # Likes and moved have the same walk; whatever is unused, all walks let by.
        let_by = {(title, other) for title, other, wanted in held if wanted and title not in (other, "unused")}
        self.assertLessEqual(let_by, {("likes", "moved"), ("moved", "likes")} | {
            (title, other) for title in ["copies", "fold"] for other in TITLES})

    def test_any_paper(self):
        for title in TITLES:
            for thing in things():
                self.assertIs(holds(title, CODE, CODE, thing), False)

    def test_reasons(self):
        # For each title a pair that no other title's checker lets by, but for those with the same reasons.
        copied = single([Row(1, "copy", None, [n(0)])], Back(n(1)), [NUM])
        folded = single([add(1, num(1), num(2))], Back(n(1)), [NUM])
        back_of = single([], Back(n(0)), [NUM])
        known = Code({"main": made([NUM], NUM, Block([0], [], Branch(YES, (1, ()), (1, ()))), Block([], [],
                                                                                                   Back(n(0))))})
        jump = Code({"main": made([NUM], NUM, Block([0], [], Jump((1, ()))), Block([], [], Back(n(0))))})
        here = Code({"main": made([NUM], NUM, Block([0], [neg(1, n(0))], Jump((1, ()))), Block([], [], Back(n(1))))})
        there = Code({"main": made([NUM], NUM, Block([0], [], Jump((1, ()))), Block([], [neg(1, n(0))], Back(n(1))))})
        for ahead, behind, paper, wanted in [
            (copied, back_of, {"main": ({0: 0}, {0: n(0), 1: n(0)})}, ["copies"]),
            (folded, single([], Back(num(3)), [NUM]), {"main": ({0: 0}, {0: n(0), 1: num(3)})}, ["fold"]),
            (known, jump, same_paper(known), ["known"]), (here, there, same_paper(here), ["likes", "moved"]),
            (known, known, same_paper(known), TITLES[:6]),
        ]:
            self.assertEqual([title for title in TITLES if holds(title, ahead, behind, paper)], wanted)


class Chains(unittest.TestCase):
    def goes(self, code, titles):
        """The form at the end; all that 121, 122 and 124 tell of the chain is looked at."""
        need_fit(code)
        kept = shown((code.told(), titles))
        told = chain(code, titles)
        self.assertEqual(shown((code.told(), titles)), kept)
        self.assertIs(told.__class__, tuple)
        end, steps = told
        self.assertIs(steps.__class__, list)
        wanted = chained_by_hand(code, titles)
        self.assertEqual(shown(end.told()), shown(wanted[0].told()))
        self.assertEqual([(title, shown(form.told()), settled(paper)) for title, form, paper in steps],
                         [(title, shown(form.told()), settled(paper)) for title, form, paper in wanted[1]])
        ahead = code
        for step in steps:
            self.assertIs(step.__class__, tuple)
            title, behind, paper = step
            need_fit(behind)
            self.assertIn(title, titles)
            self.assertIs(holds(title, ahead, behind, paper), True)
            self.assertLess(measure(behind), measure(ahead))
            ahead = behind
        self.assertEqual(ahead.told(), end.told())
        for title in titles:
            self.assertIsNone(CLASSES[title]().tried(end))
        self.assertIsNone(first_amiss(code, steps))
        if not steps:
            self.assertIs(end, code)
        return end

    def runs_alike(self, code, steps, inputs, budgets=(0, 1, 2, 5, 30)):
        for budget in budgets:
            wanted = shown(run_blocks(code, inputs, budget).seen())
            for title, form, paper in steps:
                run = run_blocks(form, inputs, budget)
                self.assertEqual(shown(run.seen()), wanted, (title, inputs, budget))
                self.assertLessEqual(run.steps, form.width() * (run.took + 1))

    def test_all_titles(self):
        self.goes(CODE, TITLES)
        end, steps = chain(CODE, TITLES)
        self.assertEqual({step[0] for step in steps}, set(TITLES))
        self.assertEqual(measure(end)[0], 0)
        tree = typed(program())
        for inputs in [[-5, True], [0, False], [2, True], [6, False]]:
            self.runs_alike(CODE, steps, inputs, range(0, 60, 4))
            for budget in [0, 3, 40, 200]:
                self.assertEqual(run_blocks(end, inputs, budget).seen(), run_source(tree, inputs, budget).seen())

    def test_each_title_by_itself(self):
        for title in TITLES:
            self.goes(CODE, [title])
            for step in chain(CODE, [title])[1]:
                self.assertEqual(step[0], title)

    def test_pairs_in_both_orders(self):
        for one, other in permutations(TITLES, 2):
            self.goes(CODE, [one, other])

    def test_other_orders(self):
        chance = Random(5)
        for time in range(12):
            titles = chance.sample(TITLES, len(TITLES))
            end = self.goes(CODE, titles)
            for inputs in [[0, False], [3, True]]:
                for budget in [0, 2, 7, 50]:
                    self.assertEqual(run_blocks(end, inputs, budget).seen(), run_blocks(CODE, inputs, budget).seen())

    def test_none(self):
        for titles in [[], ()]:
            end, steps = chain(CODE, titles)
            self.assertIs(end, CODE)
            self.assertEqual(shown(steps), "[]")
        # Or none that changes anything.
        end = chain(CODE, TITLES)[0]
        again = chain(end, TITLES)
        self.assertIs(again[0], end)
        self.assertEqual(again[1], [])
        self.assertIsNot(again[1], chain(end, TITLES)[1])

    def test_lists_and_tuples(self):
        for titles in [TITLES, ["known", "copies"], ["unused"]]:
            one, other = chain(CODE, titles), chain(CODE, tuple(titles))
            self.assertEqual(one[0].told(), other[0].told())
            self.assertEqual([(title, form.told(), paper) for title, form, paper in one[1]],
                             [(title, form.told(), paper) for title, form, paper in other[1]])
            self.goes(CODE, tuple(titles))

    def test_a_title_several_times(self):
        for titles in [["fold", "fold"], ["copies", "unused", "copies"], ["putin", "putin", "moved", "putin"],
                       TITLES + TITLES, ["likes"] * 5]:
            self.goes(CODE, titles)
        # It is tried as often in one round: two calls are put in one behind the other, ahead of folding. (The row of f
        # is folded in f, too.)
        f = made([NUM], NUM, Block([0], [add(1, num(1), num(2))], Back(n(1))))
        main = made([NUM], NUM, Block([0], [], Risk("call", "f", [n(0)], (1, ()), [])),
                    Block([1], [], Risk("call", "f", [n(1)], (2, ()), [])), Block([2], [], Back(n(2))))
        code = Code({"main": main, "f": f})
        for titles, wanted in [(["putin", "putin", "fold"], ["putin", "putin", "fold"]),
                               (["putin", "fold"], ["putin", "fold", "putin"]),
                               (["putin", "fold", "putin"], ["putin", "fold", "putin"]),
                               (["fold", "putin"], ["fold", "putin", "putin"])]:
            self.goes(code, titles)
            self.assertEqual([step[0] for step in chain(code, titles)[1]], wanted)

    def test_again_and_again(self):
        # What one does lets another one do something, which stands ahead of it.
        rows = [Row(1, "copy", None, [num(1)]), add(2, n(1), num(2)), Row(3, "copy", None, [n(2)]), add(4, n(3), n(3))]
        code = single(rows, Back(n(4)))
        self.assertEqual([step[0] for step in chain(code, ["fold"])[1]], ["fold"])
        branch = Code({"main": made([NUM, TRUTH], NUM, Block([0, 1], [], Jump((1, (YES,)))), Block([2], [], Branch(
            n(2), (2, (num(3),)), (2, (n(0),)))), Block([3], [add(4, n(3), num(1))], Back(n(4))), n1=TRUTH, n2=TRUTH)})
        end = self.goes(branch, ["fold", "known", "copies"])
        self.assertEqual([step[0] for step in chain(branch, ["fold", "known", "copies"])[1]],
                         ["copies", "known", "copies", "fold"])
        self.assertEqual(end.functions["main"].blocks[2].end.told(), ("back", num(4)))
        self.assertEqual([step[0] for step in chain(branch, ["copies", "known", "fold"])[1]],
                         ["copies", "known", "copies", "fold"])
        self.assertEqual([step[0] for step in chain(branch, ["known", "copies"])[1]], ["copies", "known", "copies"])

    def test_what_is_told_is_the_askers_own(self):
        first = chain(CODE, TITLES)
        kept = [(title, shown(form.told()), settled(paper)) for title, form, paper in first[1]]
        second = chain(CODE, TITLES)
        for title, form, paper in second[1]:
            for part in paper if isinstance(paper, tuple) else [paper]:
                if isinstance(part, (list, dict)):
                    part.clear()
            form.functions.clear()
        second[1].clear()
        self.assertEqual([(title, shown(form.told()), settled(paper)) for title, form, paper in first[1]], kept)
        self.assertEqual([(title, shown(form.told()), settled(paper)) for title, form, paper in chain(CODE, TITLES)[1]],
                         kept)
        titles = list(TITLES)
        told = chain(CODE, titles)
        titles.clear()
        self.assertEqual(len(told[1]), len(kept))

    def test_deep_calls(self):
        end, steps = chain(CODE, TITLES)
        for title, form, paper in steps:
            self.assertEqual(run_blocks(form, [2500, True], 10000).seen(), run_blocks(CODE, [2500, True], 10000).seen())
        # Main calls itself over and over, not last.
        deep = lowered(typed(((), (fun("main", [("a", NUM)], NUM, choice(
            two("<", name("a"), num(1)), [back(num(0))]), back(two("+", num(1), call("main", two(
                "-", name("a"), num(1))))),),))))
        end = self.goes(deep, TITLES)
        for inputs, budget in [([9000], 10000), ([10001], 10000), ([20], 5)]:
            self.assertEqual(run_blocks(end, inputs, budget).seen(), run_blocks(deep, inputs, budget).seen())
        self.assertEqual(run_blocks(end, [9000], 10000).thing, num(9000))

    def test_the_sample(self):
        for titles in [TITLES, TITLES[::-1], ["putin", "known"]]:
            self.goes(sample_code(), titles)
        for inputs in [[0, True], [3, True], [12, True], [5, False]]:
            self.runs_alike(sample_code(), chain(sample_code(), TITLES)[1], inputs, range(12))

    def test_programs_by_chance(self):
        changes = 0
        for seed in range(120):
            sower, chance = Sower(seed, size=70), Random(seed)
            tree = typed(sower.program())
            code = lowered(tree)
            titles = TITLES if seed % 2 else some_titles(chance)
            end = self.goes(code, titles)
            changes += end is not code
            takes = next(head[1] for head in sower.heads if head[0] == "main")
            inputs = [sower.value(kind) for text, kind in takes]
            self.runs_alike(code, chain(code, titles)[1], inputs, [0, 1, 3, 20])
            for budget in [0, 1, 2, 6, 40]:
                self.assertEqual(shown(run_blocks(end, inputs, budget).seen()),
                                 shown(run_source(tree, inputs, budget).seen()))
        self.assertGreater(changes, 90)

    def test_drawn_codes(self):
        for seed in range(120):
            drawer, chance = Drawer(seed, calls=0.6), Random(seed)
            code = drawer.code()
            titles = TITLES if seed % 2 else some_titles(chance)
            self.goes(code, titles)
            self.runs_alike(code, chain(code, titles)[1], drawer.inputs(), [0, 1, 3, 20])

    def test_great_codes(self):
        # Many loops, each with a row to move, which are moved one by one.
        rows = [let("a", num(1)), let("c", num(2))]
        for place in range(40):
            rows.append(choice(two("<", name("a"), num(place)), [put("c", num(place))]))
            rows.append(log(name("a")))
            rows.append(loop(two("<", name("a"), two("+", num(place), name("b"))), put("a", num(1000))))
        code = lowered(typed(((), (fun("main", [("b", NUM)], NUM, *rows, back(name("c"))),))))
        end, steps = chain(code, TITLES)
        self.assertGreater(len([step for step in steps if step[0] == "moved"]), 30)
        self.assertIsNone(first_amiss(code, steps))
        for given in [-50, 0, 30]:
            self.runs_alike(code, steps[::7], [given], [0, 5, 100])


class FirstAmiss(unittest.TestCase):
    def setUp(self):
        self.steps = chain(CODE, TITLES)[1]

    def test_none(self):
        self.assertIsNone(first_amiss(CODE, self.steps))
        self.assertIsNone(first_amiss(CODE, []))
        self.assertIsNone(first_amiss(CODE, self.steps[:3]))
        self.assertIsNone(first_amiss(self.steps[1][1], self.steps[2:]))

    def test_another_paper_at_each_place(self):
        for number, (title, form, paper) in enumerate(self.steps):
            for other in [None, {}, (), [], 0, "main", [paper], (paper,), same_paper(form)]:
                if settled(other) == settled(paper):
                    continue
                steps = list(self.steps)
                steps[number] = (title, form, other)
                ahead = self.steps[number - 1][1] if number else CODE
                wanted = None if CLASSES[title]().holds(ahead, form, other) else number
                self.assertEqual(first_amiss(CODE, steps), wanted)
                if other is None or other == [paper]:
                    self.assertEqual(first_amiss(CODE, steps), number)

    def test_another_form_at_each_place(self):
        other = single([], Raise("oops"), [NUM, TRUTH], n1=TRUTH)
        for number, (title, form, paper) in enumerate(self.steps):
            steps = list(self.steps)
            steps[number] = (title, other, paper)
            self.assertEqual(first_amiss(CODE, steps), number)
            # A step left out: what is behind it doesn't fit any more, or stands at the place of the one left out.
            steps = self.steps[:number] + self.steps[number + 1:]
            left = first_amiss(CODE, steps)
            if number < len(steps):
                ahead = steps[number - 1][1] if number else CODE
                lets_by = CLASSES[steps[number][0]]().holds(ahead, *steps[number][1:])
                self.assertEqual(left == number, not lets_by)
            else:
                self.assertIsNone(left)

    def test_another_form_ahead(self):
        self.assertEqual(first_amiss(sample_code(), self.steps), 0)
        self.assertEqual(first_amiss(CODE, self.steps[1:]), 0)

    def test_another_title_at_each_place(self):
        for number, (title, form, paper) in enumerate(self.steps):
            ahead = self.steps[number - 1][1] if number else CODE
            for other in TITLES:
                steps = list(self.steps)
                steps[number] = (other, form, paper)
                wanted = None if CLASSES[other]().holds(ahead, form, paper) else number
                self.assertEqual(first_amiss(CODE, steps), wanted)
            steps = list(self.steps)
            steps[number] = ("putin" if title != "putin" else "fold", form, paper)
            self.assertEqual(first_amiss(CODE, steps), number)

    def test_the_first_of_several(self):
        for one, other in [(0, 1), (2, 5), (1, len(self.steps) - 1)]:
            steps = list(self.steps)
            for number in [one, other]:
                steps[number] = (steps[number][0], steps[number][1], None)
            self.assertEqual(first_amiss(CODE, steps), one)

    def test_steps_that_change_nothing(self):
        # Whoever made them: a form may be its own behind.
        same = [(title, CODE, same_paper(CODE)) for title in TITLES[:6]]
        self.assertIsNone(first_amiss(CODE, same))
        self.assertEqual(first_amiss(CODE, same + [("putin", CODE, same_paper(CODE))]), 6)
        self.assertEqual(first_amiss(CODE, [("lastcalls", CODE, same_paper(CODE))]), 0)
        self.assertIsNone(first_amiss(CODE, same + self.steps))

    def test_made_by_hand(self):
        # Rougher forms ahead, and all the steps that lead to finer ones.
        for seed in range(60):
            pair = Rougher(sown_code(Sower(seed, size=40)), seed, 1)
            held = [title for title in TITLES if first_amiss(pair.ahead, [(title, pair.behind, pair.paper)]) is None]
            self.assertEqual(held, [title for title in TITLES
                                    if CLASSES[title]().holds(pair.ahead, pair.behind, pair.paper)])

    def test_nothing_is_changed(self):
        kept = [(title, shown(form.told()), settled(paper)) for title, form, paper in self.steps]
        first_amiss(CODE, self.steps)
        self.assertEqual([(title, shown(form.told()), settled(paper)) for title, form, paper in self.steps], kept)


class Measure(unittest.TestCase):
    def same(self, code, *wanted):
        need_fit(code)
        self.assertEqual(shown(measure(code)), shown(wanted))
        self.assertEqual(measured_by_hand(code), wanted)

    def test_ends(self):
        back_of = Block([], [], Back(num(1)))
        self.same(single([], Back(num(1))), 0, 0, 0, 0)
        self.same(single([], Raise("oops")), 0, 0, 0, 0)
        self.same(Code({"main": made([], NUM, Block([], [], Jump((1, ()))), back_of)}), 0, 1, 0, 0)
        self.same(Code({"main": made([], NUM, Block([], [], Branch(YES, (1, ()), (1, ()))), back_of)}), 0, 2, 0, 0)
        taking = Block([0], [], Back(n(0)))
        for count in range(4):
            catches = [("f" + "abc"[place], (1, (num(1),))) for place in range(count)]
            risk = Risk("mul", None, [num(1), num(2)], (1, ()), catches)
            self.same(Code({"main": made([], NUM, Block([], [], risk), taking)}), 0, 2 + count, 1, 0)
            risk = Risk("call", "main", [], (1, ()), catches)
            self.same(Code({"main": made([], NUM, Block([], [], risk), taking)}), 1, 2 + count, 1, 0)

    def test_rows_and_params(self):
        # Logs and ticks are rows; the params of block 0 are not counted.
        self.same(single([TICK, noted(n(0)), neg(3, n(0))], Back(n(3)), [NUM, NUM, NUM]), 0, 0, 3, 0)
        self.same(Code({"main": made([NUM], NUM, Block([0], [], Jump((1, (n(0), n(0), num(1))))),
                                     Block([1, 2, 3], [TICK], Back(n(1))))}), 0, 1, 4, 1)

    def test_how_many_rule(self):
        # A row of four blocks: 0 others rule the first, 3 the last.
        blocks = [Block([], [TICK] * (place + 1), Jump((place + 1, ()))) for place in range(3)]
        self.same(Code({"main": made([], NUM, *blocks, Block([], [TICK] * 4, Back(num(1))))}), 0, 3, 10,
                  0 * 1 + 1 * 2 + 2 * 3 + 3 * 4)
        # Two ways that meet: 0 alone rules each of the three.
        self.same(Code({"main": made([TRUTH], NUM, Block([0], [TICK], Branch(n(0), (1, ()), (2, ()))),
                                     Block([], [TICK], Jump((3, ()))), Block([], [TICK, TICK], Jump((3, ()))),
                                     Block([], [TICK] * 5, Back(num(1))), n0=TRUTH)}), 0, 4, 9, 1 + 2 + 5)
        # A loop: the way back rules nothing.
        self.same(Code({"main": made([TRUTH], NUM, Block([0], [], Jump((2, ()))), Block([], [TICK], Jump((2, ()))),
                                     Block([], [TICK, TICK], Branch(n(0), (1, ()), (3, ()))),
                                     Block([], [TICK], Back(num(1))), n0=TRUTH)}), 0, 4, 4, 2 + 2 * 1 + 2)

    def test_several_functions(self):
        # Rows and params of main, f and g; rows of main in the blocks 1, 2, 3 and 6.
        self.same(sample_code(), 2, (2 + 2 + 3 + 1 + 0 + 4 + 1 + 0) + (2 + 3), (7 + 5) + (2 + 2) + (3 + 0),
                  2 * 1 + 2 * 2 + 1 * 3 + 1 * 2)

    def test_less_at_the_first_place(self):
        self.assertIs(measure(CODE).__class__, tuple)
        self.assertLess((0, 9, 9, 9), (1, 0, 0, 0))
        kept = shown(CODE.told())
        self.assertEqual(measure(CODE), measure(CODE))
        self.assertEqual(shown(CODE.told()), kept)

    def test_by_chance(self):
        for seed in range(200):
            for code in [sown_code(Sower(seed, size=80)), Drawer(seed, size=10).code()]:
                self.assertEqual(shown(measure(code)), shown(measured_by_hand(code)))

    def test_less_behind_each_rewriting(self):
        seen = {title: 0 for title in TITLES}
        for seed in range(200):
            drawer = Drawer(seed, size=9, calls=0.8)
            for code in [drawer.code(), Rougher(sown_code(Sower(seed, size=60)), seed).ahead]:
                for title in TITLES:
                    told = CLASSES[title]().tried(code)
                    if told is not None:
                        seen[title] += 1
                        self.assertLess(measure(told[0]), measure(code), title)
        self.assertGreater(min(seen.values()), 0)

    def test_a_great_function(self):
        count = 5000
        blocks = [Block([], [TICK], Jump((place + 1, ()))) for place in range(count - 1)]
        code = Code({"main": Function((), NUM, {}, blocks + [Block([], [TICK], Back(num(1)))])})
        self.assertEqual(measure(code), (0, count - 1, count, sum(range(count))))


class NoTitles(unittest.TestCase):
    def amiss(self):
        return [thing for thing in things() if thing not in TITLES] + [
            "Fold", "fold ", "", "FOLD", "foldcopies", "kept", "copy", "source", "inline", ["fold"], ("fold",),
            {"fold": 1}, [["fold"]], 0, 7, True, None]

    def refused(self, thing, asked, *handed):
        with self.assertRaises(NoPass) as caught:
            asked(*handed)
        self.assertEqual(settled(caught.exception.name), settled(thing))
        self.assertIsInstance(caught.exception, StepError)

    def test_checkers(self):
        for thing in self.amiss():
            self.refused(thing, holds, thing, CODE, CODE, same_paper(CODE))

    def test_titles_of_chains(self):
        for thing in self.amiss():
            for titles in [[thing], ["fold", thing], ["fold", "putin", thing, "copies"], (thing, "fold"),
                           TITLES + [thing]]:
                self.refused(thing, chain, CODE, titles)

    def test_the_first_one(self):
        self.refused("one", chain, CODE, ["one", "two"])
        self.refused("two", chain, CODE, ["fold", "two", "one"])
        self.refused(None, chain, CODE, ["fold", "copies", None, "one"])
        self.refused(["fold"], chain, CODE, (["fold"], "one"))

    def test_what_is_no_list_or_tuple(self):
        for thing in [thing for thing in self.amiss() + TITLES if not isinstance(thing, (list, tuple))]:
            self.refused(thing, chain, CODE, thing)
        self.refused({"fold": "copies"}, chain, CODE, {"fold": "copies"})
        self.refused("fold", chain, CODE, "fold")
        self.refused("", chain, CODE, "")

    def test_ahead_of_all_else(self):
        # Nothing is rewritten ahead of it: a form that can't be is not looked at.
        self.refused("x", chain, None, ["fold", "x"])
        self.refused("x", holds, "x", None, None, None)
        self.refused(7, chain, None, 7)

    def test_steps(self):
        steps = chain(CODE, TITLES)[1]
        for thing in self.amiss():
            self.refused(thing, first_amiss, CODE, [(thing, CODE, same_paper(CODE))])
        for number, (title, form, paper) in enumerate(steps):
            other = list(steps)
            other[number] = ("other", form, paper)
            self.refused("other", first_amiss, CODE, other)
            # Not where a step ahead of it isn't let by.
            for place in range(number):
                amiss = list(other)
                amiss[place] = (amiss[place][0], amiss[place][1], None)
                self.assertEqual(first_amiss(CODE, amiss), place)
            # But where one behind it isn't.
            amiss = list(other)
            amiss[-1] = amiss[-1][:2] + (None,)
            self.refused("other", first_amiss, CODE, amiss)
        # Of two the first one.
        self.refused("one", first_amiss, CODE, [("one", CODE, {}), ("two", CODE, {})])

    def test_what_it_is_made_of_is_a_copy(self):
        thing = ["a", {"b": [1]}]
        with self.assertRaises(NoPass) as caught:
            chain(CODE, [thing])
        thing[1]["b"].append(2)
        self.assertEqual(caught.exception.name, ["a", {"b": [1]}])


if __name__ == "__main__":
    unittest.main()
