"""Points 1 to 6, 150 and 151: the chain of all forms of a program, and what is promised over the whole."""

import copy
import unittest
from random import Random
from unittest.mock import patch

from eachstepsame.allot import allotted
from eachstepsame.blockrun import run_blocks
from eachstepsame.blocks import Code
from eachstepsame.chain import Forms
from eachstepsame.errors import NoBudget, NoFit, NoInput, NoMain, NoName, NoPass, NoRegisters, Twice
from eachstepsame.fits import is_fit
from eachstepsame.lowering import lowered
from eachstepsame.machinerun import run_machine
from eachstepsame.machines import Machine
from eachstepsame.passes import all_titles, chain, first_amiss
from eachstepsame.runs import Run
from eachstepsame.sourcerun import run_source, source_width
from eachstepsame.table import holds
from eachstepsame.typer import Typed, typed
from tests.helper import (
    NO, NUM, TRUTH, YES, MachineOracle, Sower, back, call, choice, do, fails, field, fun, index, let, log, loop, main,
    name, new, nodes, num, one, put, refusal, row, setat, setfield, settled, shown, things, trying, two,
)

WORDS = ["source", "blocks", "behind", "machine"]
TITLES = all_titles()
PAIR, WIDE = ("named", "pair"), ("row", 3)

# All rows, expressions and faults; main takes a number, a truth, a row and a record.
GREAT = ((("pair", (("count", NUM), ("sure", TRUTH))),), (
    fun("half", [("n", NUM)], NUM,
        choice(two("=", two("mod", name("n"), num(2)), num(0)), [back(two("/", name("n"), num(2)))]), fails("odd")),
    fun("down", [("n", NUM), ("sum", NUM)], NUM,
        choice(two("<", name("n"), num(1)), [back(name("sum"))], []),
        back(call("down", two("-", name("n"), num(1)), two("+", name("sum"), name("n"))))),
    fun("main", [("n", NUM), ("sure", TRUTH), ("wide", WIDE), ("both", PAIR)], NUM,
        let("i", num(0)), let("sum", two("+", num(0), name("n"))), do(two("-", name("n"), num(9))),
        choice(YES, [log(two("+", name("n"), num(2)))], [fails("never")]), log(two("+", name("n"), num(2))),
        loop(two("<", name("i"), num(4)),
             let("step", two("+", two("+", name("n"), num(5)), num(0))),
             trying([setat("wide", name("i"), call("half", two("+", name("i"), name("n"))))],
                    ("odd", [log(one("-", name("i")))]), ("range", [log(name("sure")), setfield("both", "sure", YES)])),
             put("sum", two("+", name("sum"), name("step"))), put("i", two("+", name("i"), num(1)))),
        log(index(name("wide"), two("mod", name("n"), num(3)))),
        choice(one("not", two("or", name("sure"), field(name("both"), "sure"))), [fails("unsure")], [do(num(3))]),
        put("both", new("pair", two("*", name("sum"), name("sum")), two("and", name("sure"), YES))),
        trying([put("sum", call("down", name("n"), name("sum")))], ("end", [])),
        log(two("/", name("sum"), name("n"))),
        back(two("+", field(name("both"), "count"), index(row(name("sum"), num(1)), num(0))))),
))
GREAT_INPUTS = [[n, sure, wide, both] for n in [0, 1, 2, 5, -3, 10 ** 30]
                for sure in [True, False] for wide, both in [((1, 2, 3), (4, False)), ((0, 0, -1), (0, True))]]


class Forming(unittest.TestCase):
    def formed(self, program, titles, k):
        """All forms of a program, as 150 tells."""
        kept = copy.deepcopy((program, titles, k))
        forms = Forms(program, titles, k)
        self.assertEqual(shown((program, titles, k)), shown(kept))
        self.assertIsInstance(forms.tree, Typed)
        self.assertEqual(shown(forms.tree.functions), shown(typed(program).functions))
        ahead = lowered(typed(program))
        self.assertEqual(shown(forms.code_ahead.told()), shown(ahead.told()))
        behind, steps = chain(ahead, titles)
        self.assertIsInstance(forms.code_behind, Code)
        self.assertEqual(shown(forms.code_behind.told()), shown(behind.told()))
        self.assertIs(forms.chained.__class__, list)
        self.assertEqual([step.__class__ for step in forms.chained], [tuple for step in steps])
        for step, (title, form, paper) in zip(forms.chained, steps):
            self.assertEqual((step[0], shown(step[1].told()), settled(step[2])),
                             (title, shown(form.told()), settled(paper)))
        machine, table = allotted(behind, k)
        self.assertIsInstance(forms.machine, Machine)
        self.assertEqual(shown(forms.machine.told()), shown(machine.told()))
        self.assertEqual(settled(forms.table), settled(table))
        self.assertEqual(shown(forms.registers), shown(k))
        self.assertIsNone(first_amiss(forms.code_ahead, forms.chained))
        self.assertIs(holds(forms.code_behind, forms.machine, forms.table, forms.registers), True)
        self.assertIs(forms.held(), True)
        self.assertEqual(forms.widths(), [source_width(typed(program)), ahead.width(), behind.width(), machine.width()])
        self.assertIs(forms.widths().__class__, list)
        return forms

    def runs(self, forms, inputs, budget):
        """What is seen of all four runs, which is the same."""
        kept = copy.deepcopy(inputs)
        seen = []
        for word, width in zip(WORDS, forms.widths()):
            run = forms.run(word, inputs, budget)
            self.assertIsInstance(run, Run)
            self.assertLessEqual(run.steps, width * (run.took + 1), word)
            seen.append(run.seen())
        self.assertEqual(len({shown(part) for part in seen}), 1, (inputs, budget, seen))
        self.assertEqual(shown(inputs), shown(kept))
        oracle = MachineOracle(forms.machine, budget)
        self.assertEqual(shown(oracle.run(inputs)), shown(seen[0]))
        return seen[0]


class Made(Forming):
    def test_all_titles_and_registers(self):
        endings = set()
        for k in range(2, 9):
            forms = self.formed(GREAT, TITLES, k)
            self.assertEqual(forms.registers, k)
            for inputs in GREAT_INPUTS:
                for budget in [0, 1, 2, 4, 5, 8, 9, 13, 50]:
                    ending, thing, logged, took = self.runs(forms, inputs, budget)
                    endings.add((ending, thing if ending == "fault" else None))
        self.assertEqual(endings, {("answer", None), ("dry", None), ("fault", "unsure"), ("fault", "zero"),
                                   ("fault", "great")})
        self.assertEqual({title for title, form, paper in forms.chained}, set(TITLES))

    def test_some_titles(self):
        chance = Random(3)
        some = [[], ["fold"], ["putin"], ["lastcalls", "lastcalls"], TITLES[::-1], tuple(TITLES), (), TITLES + TITLES,
                ["known", "moved", "known"], ("unused", "likes")]
        for time in range(8):
            some.append([chance.choice(TITLES) for place in range(chance.randrange(12))])
        for titles in some:
            forms = self.formed(GREAT, titles, 2 + len(titles) % 7)
            self.assertTrue({title for title, form, paper in forms.chained} <= set(titles))
            for inputs in GREAT_INPUTS[::3]:
                self.runs(forms, inputs, 7)
                self.runs(forms, inputs, 100)

    def test_no_titles(self):
        for titles in [[], ()]:
            forms = self.formed(GREAT, titles, 4)
            self.assertEqual(forms.chained, [])
            self.assertEqual(forms.code_behind.told(), forms.code_ahead.told())

    def test_nothing_to_rewrite(self):
        forms = self.formed(main(back(num(1))), TITLES, 2)
        self.assertEqual(forms.chained, [])
        self.assertEqual(forms.widths(), [2, 1, 1, 1])
        self.assertEqual(self.runs(forms, [], 0), ("answer", num(1), (), 0))
        self.assertEqual([forms.run(word, [], 0).steps for word in WORDS], [2, 1, 1, 1])

    def test_which_form_is_run(self):
        # Each form has another number of steps here.
        rows = [let("x", two("+", name("n"), num(0))), let("y", two("+", name("x"), name("n"))),
                let("z", one("-", name("y"))),
                loop(two("<", name("x"), num(3)), put("x", two("+", name("x"), name("n")))), back(name("x"))]
        forms = self.formed(((), (fun("main", [("n", NUM)], NUM, *rows),)), TITLES, 2)
        self.assertEqual(self.runs(forms, [1], 9), ("answer", num(3), (), 3))
        steps = [forms.run(word, [1], 9).steps for word in WORDS]
        self.assertEqual(len(set(steps)), 4, steps)
        runs = [run_source(forms.tree, [1], 9), run_blocks(forms.code_ahead, [1], 9),
                run_blocks(forms.code_behind, [1], 9), run_machine(forms.machine, [1], 9)]
        self.assertEqual(steps, [run.steps for run in runs])
        self.assertEqual(len(set(forms.widths())), 4)

    def test_inputs_of_all_kinds(self):
        kinds = [NUM, TRUTH, ("row", 1), ("row", 6), PAIR, ("named", "alone")]
        records = (("pair", (("a", NUM), ("b", TRUTH))), ("alone", (("a", TRUTH),)))
        values = [[0, 1, 10 ** 50 - 1], [True, False], [(0,), (1,)], [(1, 2, 3, 4, 5, 6)], [(1, True), (0, False)],
                  [(True,), (False,)]]
        for kind, some in zip(kinds, values):
            program = (records, (fun("main", [("x", kind)], kind, loop(NO), back(name("x"))),))
            for k in [2, 8]:
                forms = self.formed(program, TITLES, k)
                for value in some:
                    self.assertEqual(self.runs(forms, [value], 1)[0], "answer")
                    self.assertEqual(self.runs(forms, [value], 0)[0], "dry")

    def test_deep_calls(self):
        down = fun("down", [("n", NUM)], NUM, choice(two("=", name("n"), num(0)), [fails("oops")]),
                   let("m", call("down", two("-", name("n"), num(1)))), back(two("+", name("m"), name("n"))))
        last = fun("last", [("n", NUM)], NUM, choice(two("=", name("n"), num(0)), [back(num(7))]),
                   back(call("last", two("-", name("n"), num(1)))))
        rows = [let("a", call("last", name("n"))), trying([do(call("down", name("n")))], ("oops", [back(name("a"))]))]
        forms = self.formed(((), (down, last, fun("main", [("n", NUM)], NUM, *rows))), TITLES, 3)
        self.assertIn("lastcalls", [step[0] for step in forms.chained])
        self.assertEqual(self.runs(forms, [2500], 10000), ("answer", num(7), (), 5002))
        self.assertEqual(self.runs(forms, [2500], 5001), ("dry", None, (), 5001))


class Refused(unittest.TestCase):
    AMISS = [
        (((("r", (("a", NUM),)), ("r", (("b", NUM),))), (fun("main", [], NUM),)), ("Twice", "r", 1)),
        (((), (fun("main", [("a", ("named", "r"))], NUM),)), ("NoName", "r", 0)),
        (((), (fun("f", [], NUM),)), ("NoMain",)),
        (main(back(YES)), ("NoFit", 1, 2)),
        (main(back(name("x"))), ("NoName", "x", 2)),
        (main(let("x", num(1)), let("x", num(2))), ("Twice", "x", 3)),
    ]

    def test_by_the_typer(self):
        for program, told in self.AMISS:
            self.assertEqual(refusal(typed, program), told)
            # Ahead of all else.
            for titles, k in [(TITLES, 2), (["no"], 2), (None, None), (TITLES, 9), ("fold", True)]:
                self.assertEqual(refusal(Forms, program, titles, k), told)

    def test_titles(self):
        for k in [2, 8, 1, 9, True, None, [3]]:
            for titles, thing in [(["fold", "no"], "no"), (("fold", None, "no"), None), ([1], 1), ("fold", "fold"),
                                  ({}, {}), (None, None), ([["fold"]], ["fold"]), ({"fold": 1}, {"fold": 1}),
                                  (7, 7), (True, True), ([TITLES], TITLES), (["Fold"], "Fold"), ([""], "")]:
                self.assertEqual(shown(refusal(Forms, main(back(num(1))), titles, k)), shown(("NoPass", thing)))

    def test_any_thing_as_titles(self):
        for thing in things():
            wanted = ("NoPass", thing)
            if isinstance(thing, (list, tuple)):
                amiss = [part for part in thing if part not in TITLES]
                wanted = ("NoPass", amiss[0]) if amiss else None
            self.assertEqual(shown(refusal(Forms, main(back(num(1))), thing, 2)), shown(wanted), thing)

    def test_registers(self):
        for thing in things() + list(range(12)):
            good = thing.__class__ is int and 2 <= thing <= 8
            kept = copy.deepcopy(thing)
            self.assertEqual(refusal(Forms, main(back(num(1))), ["fold"], thing), None if good else ("NoRegisters",))
            self.assertEqual(shown(thing), shown(kept))

    def test_classes(self):
        for error, program, titles, k in [
            (Twice, self.AMISS[0][0], [], 2), (NoName, self.AMISS[1][0], [], 2), (NoMain, self.AMISS[2][0], [], 2),
            (NoFit, self.AMISS[3][0], [], 2), (NoPass, main(back(num(1))), ["x"], 2),
            (NoRegisters, main(back(num(1))), [], 0),
        ]:
            with self.assertRaises(error):
                Forms(program, titles, k)


class RunsRefused(unittest.TestCase):
    FORMS = Forms(GREAT, TITLES, 3)
    GOOD = GREAT_INPUTS[0]

    def asked(self, word, inputs, budget):
        kept = copy.deepcopy((word, inputs, budget))
        told = refusal(self.FORMS.run, word, inputs, budget)
        self.assertEqual(shown((word, inputs, budget)), shown(kept))
        return told

    def test_words(self):
        more = ["Source", "forms", "tree", "code_ahead", " source", "sources", WORDS, tuple(WORDS), 0, 3]
        for thing in things() + more:
            for inputs, budget in [(self.GOOD, 5), (None, 5), (self.GOOD, -1), ([], None)]:
                self.assertEqual(shown(self.asked(thing, inputs, budget)), shown(("NoPass", thing)))
        for word in WORDS:
            self.assertIsNone(self.asked(word, self.GOOD, 5))

    def test_no_list_of_so_many(self):
        for word in WORDS:
            for inputs in [tuple(self.GOOD), self.GOOD[:3], self.GOOD + [1], [], None, {}, "abcd", 4, True]:
                for budget in [5, -1, None, True]:
                    self.assertEqual(self.asked(word, inputs, budget), ("NoInput", None))

    def test_the_first_that_is_no_value_of_its_kind(self):
        wrong = [[True, False, None, "5", (5,)], [0, 1, None, (True,)],
                 [[1, 2, 3], (1, True, 2), (1, 2), (1, 2, 3, 4), None, 3],
                 [(False, 3), (1, 3), (True, True), [3, False], None, (3,), (3, False, 1)]]
        for word in WORDS:
            for place, some in enumerate(wrong):
                for thing in some:
                    for behind in [self.GOOD[place + 1:], [None] * (3 - place)]:
                        for budget in [5, 10001, None]:
                            inputs = self.GOOD[:place] + [thing] + behind
                            self.assertEqual(self.asked(word, inputs, budget), ("NoInput", place), (word, inputs))

    def test_budgets(self):
        for word in WORDS:
            for thing in things() + [9999, 10000, 10001, -1]:
                good = thing.__class__ is int and 0 <= thing <= 10000
                self.assertEqual(self.asked(word, self.GOOD, thing), None if good else ("NoBudget",), thing)

    def test_any_thing_as_the_inputs(self):
        forms = Forms(((), (fun("main", [("x", NUM)], NUM, back(name("x"))),)), [], 2)
        for word in WORDS:
            for thing in things():
                good = isinstance(thing, list) and len(thing) == 1 and thing[0].__class__ is int
                amiss = 0 if isinstance(thing, list) and len(thing) == 1 else None
                self.assertEqual(refusal(forms.run, word, thing, 3), None if good else ("NoInput", amiss), thing)

    def test_classes(self):
        for word in WORDS:
            with self.assertRaises(NoInput):
                self.FORMS.run(word, [], 0)
            with self.assertRaises(NoBudget):
                self.FORMS.run(word, self.GOOD, -1)
        with self.assertRaises(NoPass):
            self.FORMS.run("no", self.GOOD, -1)


class Kept(Forming):
    """What is told is the asker's own, and nothing that is changed later is seen."""

    def all_of(self, forms):
        runs = [[forms.run(word, inputs, 9).seen() for word in WORDS] for inputs in GREAT_INPUTS[:5]]
        return shown((forms.held(), forms.widths(), runs, forms.code_ahead.told(), forms.code_behind.told(),
                      forms.machine.told()))

    def test_titles_that_are_changed_later(self):
        titles = list(TITLES)
        forms = Forms(GREAT, titles, 3)
        kept = self.all_of(forms)
        titles.clear()
        self.assertEqual(self.all_of(forms), kept)

    def test_fields_that_are_emptied(self):
        forms = Forms(GREAT, TITLES, 3)
        kept = self.all_of(forms)
        forms.widths().clear()
        forms.run("machine", GREAT_INPUTS[0], 9).log.clear()
        forms.chained.pop()
        self.assertEqual(self.all_of(forms), kept)
        for title, form, paper in forms.chained:
            form.functions.clear()
            if isinstance(paper, dict):
                for partners, images in paper.values():
                    partners.clear()
                    images.clear()
                paper.clear()
            else:
                for part in paper:
                    if isinstance(part, (dict, list)):
                        part.clear()
        self.assertEqual(self.all_of(forms), kept)
        forms.chained.clear()
        for claims in forms.table.values():
            for claim in claims:
                claim.clear()
            claims.clear()
        forms.table.clear()
        forms.machine.functions.clear()
        forms.tree.functions.clear()
        forms.code_ahead.functions.clear()
        forms.code_behind.functions.clear()
        self.assertEqual(self.all_of(forms), kept)

    def test_held_asks_both_checkers(self):
        # Both always let by what is made here, so one that does not is put in their place.
        forms = Forms(GREAT, TITLES, 3)
        self.assertIs(forms.held(), True)
        with patch("eachstepsame.chain.holds", return_value=False) as asked:
            self.assertIs(forms.held(), False)
        asked.assert_called_with(forms.code_behind, forms.machine, forms.table, 3)
        for number in [0, 1, 7]:
            with patch("eachstepsame.chain.first_amiss", return_value=number) as asked:
                self.assertIs(forms.held(), False)
        self.assertEqual(shown(asked.call_args[0][0].told()), shown(forms.code_ahead.told()))
        self.assertEqual([step[:2] for step in asked.call_args[0][1]], [step[:2] for step in forms.chained])

    def test_two_of_one_program(self):
        one_of, other = Forms(GREAT, TITLES, 3), Forms(GREAT, TITLES, 3)
        self.assertEqual(self.all_of(one_of), self.all_of(other))
        self.assertEqual(settled(one_of.table), settled(other.table))
        self.assertIsNot(one_of.table, other.table)
        self.assertIsNot(one_of.chained, other.chained)


class Whole(Forming):
    """Drawn programs, from the tree to the machine."""

    def test_drawn_programs(self):
        came, titles_met = {}, set()
        for seed in range(260):
            chance = Random(seed)
            sower = Sower(seed, size=40 + seed % 120)
            titles = list(TITLES) if seed % 3 == 0 else [chance.choice(TITLES) for place in range(chance.randrange(10))]
            chance.shuffle(titles)
            forms = self.formed(sower.program(), titles, 2 + seed % 7)
            titles_met |= {title for title, form, paper in forms.chained}
            takes = next(head[1] for head in sower.heads if head[0] == "main")
            for time in range(3):
                inputs = [sower.value(kind) for text, kind in takes]
                for budget in [0, 1, 2, 3, 5, 8, 40]:
                    ending = self.runs(forms, inputs, budget)[0]
                    came[ending] = came.get(ending, 0) + 1
        self.assertGreater(min(came[ending] for ending in ["answer", "fault", "dry"]), 500, came)
        self.assertEqual(titles_met, set(TITLES))

    def test_the_machine_of_each_form_on_the_way(self):
        for seed in range(60):
            sower = Sower(seed, size=90)
            program = sower.program()
            tree = typed(program)
            code, takes = lowered(tree), next(head[1] for head in sower.heads if head[0] == "main")
            for title, form, paper in [("", code, None)] + chain(code, TITLES)[1]:
                self.assertTrue(is_fit(form))
                k = 2 + seed % 7
                machine, table = allotted(form, k)
                self.assertTrue(holds(form, machine, table, k))
                inputs = [sower.value(kind) for text, kind in takes]
                for budget in [0, 2, 30]:
                    ran = run_machine(machine, inputs, budget)
                    self.assertEqual(shown(ran.seen()), shown(run_source(tree, inputs, budget).seen()))
                    self.assertLessEqual(ran.steps, machine.width() * (ran.took + 1))

    def test_great_programs(self):
        """Near the bounds of 3."""
        letters = ["".join("abcdefghij"[int(figure)] for figure in str(1000 + number)) for number in range(200)]
        truth = fun("t", [("n", NUM)], TRUTH, back(two("<", name("n"), num(5))))
        lets = [let(text, two("+", name("n"), num(1))) for text in letters]
        many = lets + [choice(call("t", name(text)), [put(text, num(2))]) for text in letters[:150]]
        many += [log(name(text)) for text in letters]
        calls = [do(call("t", num(place))) for place in range(700)]
        for level in range(20):
            calls = [trying(calls, *[(letters[level * 8 + place], [log(num(place))]) for place in range(8)])]
        loops = [let("x", num(0))]
        for place in range(120):
            test = two("<", name("x"), two("+", name("n"), num(place)))
            loops.append(loop(test, put("x", two("+", name("x"), num(1)))))
        for rows in [many, calls, loops]:
            program = ((), (truth, fun("main", [("n", NUM)], NUM, *rows)))
            self.assertGreater(len(nodes(program)), 1100)
            for titles in [[], ["fold", "copies", "unused", "likes", "putin", "lastcalls"]]:
                forms = Forms(program, titles, 5)
                self.assertTrue(forms.held())
                for inputs in [[3], [9]]:
                    for budget in [0, 100, 2000]:
                        self.runs(forms, inputs, budget)


if __name__ == "__main__":
    unittest.main()
