"""Points 4, 131 to 133 and 137: moves one behind the other, needed names, homes, and codes allotted to registers."""

import copy
import unittest
from itertools import product
from random import Random

from eachstepsame.allot import allotted, homes, moves_in_row, needed_at
from eachstepsame.blockrun import run_blocks
from eachstepsame.blocks import Back, Block, Branch, Code, Function, Jump, Raise, Risk, Row
from eachstepsame.errors import NoCode, NoRegisters
from eachstepsame.fits import need_fit
from eachstepsame.machines import Machine
from eachstepsame.table import holds
from tests.helper import (
    NUM, TICK, TRUTH, Drawer, MachineOracle, Sower, add, made, moments, n, neg, noted, num, over_calls, refusal,
    sample_code, shown, single, sown_code, things, wanted_homes,
)

SPARE = ("reg", 70)


def reg(number):
    return ("reg", number)


def frame(number):
    return ("frame", number)


def rings_of(pairs):
    """How many rings of two and more places there are, by walking from each place."""
    sources, rings = dict(pairs), set()
    for place in sources:
        way = [place]
        while sources.get(way[-1], place) not in way:
            way.append(sources[way[-1]])
        if len(way) > 1 and sources.get(way[-1]) == place:
            rings.add(frozenset(way))
    return len(rings)


class Moves(unittest.TestCase):
    def moved(self, pairs, spare=SPARE):
        kept = copy.deepcopy(pairs)
        rows = moves_in_row(pairs, spare)
        self.assertEqual(shown(pairs), shown(kept))
        self.assertIs(rows.__class__, list)
        self.assertEqual(shown(moves_in_row(pairs, spare)), shown(rows))
        ahead = {place: ("was at", place) for pair in pairs for place in pair if place[0] in ("reg", "frame")}
        now, written = dict(ahead), []
        for row in rows:
            self.assertIs(row.__class__, tuple)
            word, place, source = row
            self.assertEqual(word, "move")
            now[place] = source if source[0] in ("num", "truth") else now[source]
            written.append(place)
        for place, source in pairs:
            self.assertEqual(now[place], source if source[0] in ("num", "truth") else ahead[source], (pairs, rows))
        for place in set(ahead) - {place for place, source in pairs} - {spare}:
            self.assertEqual(now[place], ahead[place])
        wanted = [place for place, source in pairs if place != source] + [spare] * rings_of(pairs)
        self.assertEqual(sorted(written), sorted(wanted), (pairs, rows))
        return rows

    def test_none(self):
        self.assertEqual(self.moved([]), [])

    def test_one(self):
        for source in [reg(1), frame(0), frame(2), ("num", 5), ("truth", False)]:
            self.assertEqual(shown(self.moved([(reg(0), source)])), shown([("move", reg(0), source)]))

    def test_its_own_source(self):
        self.assertEqual(self.moved([(reg(0), reg(0))]), [])
        self.assertEqual(self.moved([(reg(0), reg(0)), (frame(3), frame(3))]), [])
        self.assertEqual(self.moved([(reg(0), reg(0)), (frame(0), reg(0))]), [("move", frame(0), reg(0))])

    def test_a_row_of_them(self):
        pairs = [(reg(0), reg(1)), (reg(1), reg(2)), (reg(2), frame(0)), (frame(0), ("num", 4))]
        rows = [("move",) + pair for pair in pairs]
        self.assertEqual(self.moved(pairs), rows)
        self.assertEqual(self.moved(pairs[::-1]), rows)

    def test_rings(self):
        for count in [2, 3, 4, 9]:
            places = [frame(number) for number in range(count)]
            rows = self.moved(list(zip(places, places[1:] + places[:1])))
            self.assertEqual(len(rows), count + 1)

    def test_two_rings_and_one_of_one_place(self):
        pairs = [(reg(0), reg(1)), (reg(1), reg(0)), (reg(2), reg(2)),
                 (frame(0), frame(1)), (frame(1), frame(2)), (frame(2), frame(0))]
        for seed in range(20):
            Random(seed).shuffle(pairs)
            self.assertEqual(len(self.moved(pairs)), 7)

    def test_trees_that_hang_on_a_ring(self):
        pairs = [(reg(0), reg(1)), (reg(1), reg(0)), (reg(2), reg(0)), (frame(0), reg(2)), (frame(1), reg(2)),
                 (frame(2), reg(1)), (frame(3), reg(1)), (frame(4), ("num", 0)), (frame(5), frame(5))]
        for seed in range(20):
            Random(seed).shuffle(pairs)
            self.moved(pairs)

    def test_a_tree_that_hangs_on_what_is_its_own_source(self):
        self.moved([(reg(0), reg(0)), (reg(1), reg(0)), (reg(2), reg(1)), (reg(3), reg(0))])

    def test_registers_and_frames_of_one_number_are_apart(self):
        self.assertEqual(len(self.moved([(reg(0), frame(0)), (frame(0), reg(0))])), 3)
        self.assertEqual(len(self.moved([(reg(0), frame(0)), (frame(0), ("num", 0))])), 2)

    def test_numbers_and_truths_are_apart(self):
        rows = self.moved([(reg(0), ("num", 1)), (reg(1), ("truth", True))])
        self.assertEqual(sorted(shown(row) for row in rows),
                         sorted([shown(("move", reg(0), ("num", 1))), shown(("move", reg(1), ("truth", True)))]))

    def test_the_spare_place_may_be_of_a_frame(self):
        self.moved([(reg(0), reg(1)), (reg(1), reg(0))], frame(9))

    def test_all_of_four_places(self):
        places = [reg(0), frame(0), reg(1), frame(1)]
        for sources in product(places + [reg(2), ("num", 0)], repeat=4):
            self.moved(list(zip(places, sources)))

    def test_by_chance(self):
        for seed in range(300):
            chance = Random(seed)
            places = [chance.choice([reg, frame])(number) for number in range(chance.randrange(1, 14))]
            sources = list(places)
            chance.shuffle(sources)
            for time in range(chance.randrange(4)):
                sources[chance.randrange(len(sources))] = chance.choice(places + [frame(50), ("truth", True)])
            self.moved(list(zip(places, sources)))

    def test_very_many(self):
        places = [frame(number) for number in range(3000)]
        self.assertEqual(len(moves_in_row(list(zip(places, places[1:] + places[:1])), SPARE)), 3001)
        self.assertEqual(len(moves_in_row(list(zip(places, places[1:] + [reg(0)])), SPARE)), 3000)

    def test_a_new_list(self):
        pairs = [(reg(0), reg(1)), (reg(1), reg(0))]
        first = moves_in_row(pairs, SPARE)
        kept = list(first)
        first.clear()
        self.assertEqual(moves_in_row(pairs, SPARE), kept)


def looped():
    """A loop; one of its params, 3, is needed by nobody, and 6 but by itself."""
    return Code({"main": made(
        [NUM], NUM,
        Block([0], [], Jump((1, (n(0), num(7), n(0), n(0))))),
        Block([1, 2, 3, 6], [TICK, Row(4, "less", None, [num(0), n(1)])], Branch(n(4), (2, ()), (3, ()))),
        Block([], [Row(5, "sub", None, [n(1), num(1)])], Jump((1, (n(5), n(2), n(5), n(6))))),
        Block([], [], Back(n(2))), n4=TRUTH)})


def calling():
    """A call with a catch; 3 is handed to a param that nobody needs, and nobody needs the result."""
    rows = [neg(1, n(0)), neg(2, n(0)), neg(3, n(0)), neg(4, n(0))]
    return Code({"f": made([NUM], NUM, Block([0], [], Back(n(0)))), "main": made(
        [NUM], NUM,
        Block([0], rows, Risk("call", "f", [n(1)], (1, (n(2), n(3))), [("oops", (2, (n(4),)))])),
        Block([5, 6, 7], [], Back(n(6))),
        Block([8], [add(9, n(8), n(0))], Back(n(9))))})


def turned():
    """Block 2, which gives 3, rules block 1."""
    return Code({"main": made(
        [NUM], NUM, Block([0], [], Jump((2, ()))), Block([], [neg(1, n(0)), add(2, n(1), n(3))], Back(n(2))),
        Block([], [neg(3, n(0))], Jump((1, ()))))})


def crowded(count):
    """So many names that are needed at once, beside the two takes, of which the first one isn't needed."""
    rows = [add(number, n(1), num(number)) for number in range(2, count + 2)]
    total = [noted(n(number)) for number in range(2, count + 2)]
    return single(rows + total, Back(n(2)), [NUM, NUM])


class Needed(unittest.TestCase):
    def needed(self, code, wanted, text="main"):
        need_fit(code)
        kept = shown(code.told())
        found = needed_at(code.functions[text])
        self.assertEqual(found, wanted)
        self.assertIs(found.__class__, list)
        self.assertTrue(all(names.__class__ is list for names in found))
        self.assertEqual(shown(code.told()), kept)

    def test_a_loop(self):
        self.needed(looped(), [[0], [1, 2], [1, 2], [2]])

    def test_a_call(self):
        self.needed(calling(), [[0], [6], [0, 8]])
        self.assertEqual(over_calls(calling().functions["main"]), {0, 2, 4})

    def test_blocks_in_another_order(self):
        self.needed(turned(), [[0], [0, 3], [0]])

    def test_a_branch(self):
        code = single([neg(3, n(0)), neg(4, n(1))], Branch(n(2), (1, ()), (2, (n(4),))), [NUM, NUM, TRUTH], n2=TRUTH)
        main = code.functions["main"]
        blocks = [main.blocks[0], Block([], [], Back(n(3))), Block([5], [add(6, n(5), n(1))], Back(n(6)))]
        self.needed(Code({"main": made([NUM, NUM, TRUTH], NUM, *blocks, n2=TRUTH)}), [[0, 1, 2], [3], [1, 5]])

    def test_an_operand_of_a_row_that_nobody_needs(self):
        self.needed(single([neg(1, n(0)), neg(2, n(1))], Back(num(1)), [NUM]), [[0]])

    def test_logs(self):
        self.needed(single([noted(n(1))], Raise("oops"), [NUM, NUM]), [[1]])

    def test_params_of_block_0_that_nobody_needs(self):
        self.needed(single([], Back(n(1)), [NUM, NUM, NUM]), [[1]])
        self.needed(single([], Raise("oops"), [NUM]), [[]])

    def test_a_name_that_is_given_on_the_way_round_is_not_needed_at_the_begin(self):
        code = Code({"main": made(
            [TRUTH], NUM, Block([0], [], Jump((1, ()))),
            Block([], [TICK, neg(1, num(5)), noted(n(1))], Branch(n(0), (1, ()), (2, ()))),
            Block([], [], Back(n(1))), n0=TRUTH)})
        self.needed(code, [[0], [0], [1]])

    def test_a_param_that_is_handed_itself(self):
        code = Code({"main": made(
            [TRUTH, NUM], NUM, Block([0, 1], [], Jump((1, (n(1), n(1))))),
            Block([2, 3], [TICK], Branch(n(0), (1, (n(2), n(3))), (2, ()))),
            Block([], [], Back(n(2))), n0=TRUTH)})
        self.needed(code, [[0, 1], [0, 2], [2]])

    def test_two_params_that_are_handed_one_another(self):
        code = Code({"main": made(
            [TRUTH, NUM], NUM, Block([0, 1], [], Jump((1, (n(1), num(4))))),
            Block([2, 3], [TICK], Branch(n(0), (1, (n(3), n(2))), (2, ()))),
            Block([], [], Back(n(2))), n0=TRUTH)})
        self.needed(code, [[0, 1], [0, 2, 3], [2]])
        # Nobody reads either of them behind the loop.
        idle = Block([], [], Back(num(0)))
        main = code.functions["main"]
        self.needed(Code({"main": made([TRUTH, NUM], NUM, *main.blocks[:2], idle, n0=TRUTH)}), [[0], [0], []])

    def test_a_new_list(self):
        main = looped().functions["main"]
        first = needed_at(main)
        first[1].clear()
        first.clear()
        self.assertEqual(needed_at(main), [[0], [1, 2], [1, 2], [2]])

    def test_rising_by_number(self):
        code = Code({"main": made([NUM, NUM, NUM], NUM, Block([9, 3, 6], [add(1, n(9), n(3)), add(2, n(1), n(6))],
                                                              Back(n(2))))})
        self.needed(code, [[3, 6, 9]])

    def test_by_chance(self):
        for seed in range(250):
            for code in [Drawer(seed).code(), sown_code(Sower(seed, size=60))]:
                for text, function in code.functions.items():
                    found = moments(function)
                    self.needed(code, [sorted(found[(number, 0)]) for number in range(len(function.blocks))], text)


class Homes(unittest.TestCase):
    def housed(self, code, k, wanted, text="main"):
        need_fit(code)
        kept = shown(code.told())
        found = homes(code.functions[text], k)
        self.assertEqual(shown(sorted(found.items())), shown(sorted(wanted.items())))
        self.assertIs(found.__class__, dict)
        self.assertEqual(shown(code.told()), kept)

    def test_a_loop(self):
        self.housed(looped(), 3, {0: frame(0), 1: reg(0), 2: reg(1), 4: frame(0), 5: reg(0)})
        self.housed(looped(), 2, {0: frame(0), 1: reg(0), 2: frame(0), 4: frame(1), 5: reg(0)})
        self.housed(looped(), 4, {0: frame(0), 1: reg(0), 2: reg(1), 4: reg(2), 5: reg(0)})

    def test_a_call(self):
        wanted = {0: frame(0), 1: reg(0), 2: frame(1), 4: frame(2), 6: reg(0), 8: reg(0), 9: reg(0)}
        for k in range(2, 9):
            self.housed(calling(), k, wanted)

    def test_blocks_in_another_order(self):
        self.housed(turned(), 3, {0: frame(0), 1: reg(0), 2: reg(0), 3: reg(1)})
        self.housed(turned(), 2, {0: frame(0), 1: reg(0), 2: reg(0), 3: frame(1)})

    def test_more_names_than_registers(self):
        for k in range(2, 9):
            for count in [1, max(1, k - 2), k - 1, k, 12]:
                wanted = {0: frame(0), 1: frame(1)}
                # The last one is given when the second take isn't needed any more; the first one never is.
                free = [reg(number) for number in range(k - 1)] + [frame(0)] + [frame(2 + place) for place in range(12)]
                for place in range(count):
                    wanted[2 + place] = free[place]
                if k - 1 < count - 1:
                    wanted[1 + count] = frame(1)
                self.housed(crowded(count), k, wanted)

    def test_names_without_a_home(self):
        code = single([neg(1, n(0)), neg(2, n(1)), neg(3, n(0))], Back(n(3)), [NUM])
        self.housed(code, 4, {0: frame(0), 1: reg(0), 3: reg(0)})

    def test_a_home_may_be_that_of_an_operand_that_is_needed_no_more(self):
        code = single([neg(1, n(0)), neg(2, n(1)), add(3, n(2), n(2))], Back(n(3)), [NUM])
        self.housed(code, 8, {0: frame(0), 1: reg(0), 2: reg(0), 3: reg(0)})

    def test_a_result_that_nobody_needs_and_one_over_the_next_call(self):
        call = [Risk("call", "main", [], (1, ()), []), Risk("call", "main", [], (2, ()), []),
                Risk("call", "main", [], (3, ()), [])]
        code = Code({"main": made([], NUM, Block([], [], call[0]), Block([0], [], call[1]), Block([1], [], call[2]),
                                  Block([2], [], Back(n(0))))})
        self.housed(code, 5, {0: frame(0)})

    def test_params_and_args_over_a_call_through_a_catch_alone(self):
        call = Risk("call", "main", [n(0)], (1, ()), [("oops", (2, (n(2), n(3))))])
        code = Code({"main": made([NUM], NUM, Block([0], [neg(1, n(0)), neg(2, n(0)), neg(3, n(0))], call),
                                  Block([4], [], Back(n(4))), Block([5, 6], [add(7, n(5), n(1))], Back(n(7))))})
        self.housed(code, 3, {0: frame(0), 1: frame(1), 2: frame(2), 4: reg(0), 5: reg(0), 7: reg(0)})

    def test_what_a_call_alone_asks_is_not_needed_over_it(self):
        call = Risk("call", "main", [n(1)], (1, (n(2),)), [])
        code = Code({"main": made([NUM], NUM, Block([0], [neg(1, n(0)), neg(2, n(0))], call),
                                  Block([3, 4], [add(5, n(3), n(4))], Back(n(5))))})
        self.housed(code, 3, {0: frame(0), 1: reg(0), 2: frame(0), 3: reg(0), 4: reg(1), 5: reg(0)})

    def test_other_risks_are_no_calls(self):
        risk = Risk("mul", None, [n(1), n(0)], (1, (n(2),)), [])
        code = Code({"main": made([NUM], NUM, Block([0], [neg(1, n(0)), neg(2, n(0))], risk),
                                  Block([3, 4], [add(5, n(3), n(4))], Back(n(5))))})
        self.housed(code, 4, {0: frame(0), 1: reg(0), 2: reg(1), 3: reg(0), 4: reg(1), 5: reg(0)})

    def test_the_sample(self):
        for k in range(2, 9):
            for text, function in sample_code().functions.items():
                self.housed(sample_code(), k, wanted_homes(function, k), text)

    def test_a_new_dict(self):
        main = looped().functions["main"]
        kept = homes(main, 3)
        homes(main, 3).clear()
        self.assertEqual(homes(main, 3), kept)

    def test_by_chance(self):
        crowds = 0
        for seed in range(250):
            for code in [Drawer(seed).code(), sown_code(Sower(seed, size=70))]:
                for text, function in code.functions.items():
                    for k in [2, 3, 2 + seed % 7]:
                        wanted = wanted_homes(function, k)
                        self.housed(code, k, wanted, text)
                        crowds += max([place[1] for place in wanted.values()], default=0) > 6
        self.assertGreater(crowds, 20)


class Allotted(unittest.TestCase):
    def allotted(self, code, k):
        """As 137 tells; the machine and the table."""
        kept = shown(code.told())
        told = allotted(code, k)
        self.assertIs(told.__class__, tuple)
        machine, table = told
        self.assertIsInstance(machine, Machine)
        self.assertEqual(shown(code.told()), kept)
        self.assertIs(holds(code, machine, table, k), True)
        self.assertEqual(machine.names(), code.names())
        self.assertEqual(sorted(table), code.names())
        for text, function in code.functions.items():
            places, needed = wanted_homes(function, k), moments(function)
            claims = [{places[name]: name for name in needed[(number, 0)]} for number in range(len(function.blocks))]
            self.assertEqual(table[text], claims)
            self.assertIs(table[text].__class__, list)
            takes, size, blocks = machine.functions[text]
            self.assertEqual(takes, len(function.takes))
            for block, (rows, end) in zip(function.blocks, blocks):
                ops = [row for row in rows if row[0] == "op"]
                given = [row.name for row in block.rows if row.name is not None]
                self.assertEqual(len(ops), len(given))
                for op, name in zip(ops, given):
                    self.assertEqual(op[1], places.get(name, op[1]))
        return machine, table

    def runs(self, code, machine, inputs, budgets=(0, 1, 2, 5, 40)):
        for budget in budgets:
            run, oracle = run_blocks(code, inputs, budget), MachineOracle(machine, budget)
            self.assertEqual(shown(oracle.run(inputs)), shown(run.seen()))
            self.assertLessEqual(oracle.steps, machine.width() * (oracle.took + 1))

    def test_all_registers(self):
        for k in range(2, 9):
            machine, table = self.allotted(sample_code(), k)
            for inputs in [[5, True], [0, True], [-1, True], [3, False]]:
                self.runs(sample_code(), machine, inputs)
            self.runs(looped(), self.allotted(looped(), k)[0], [4])
            self.runs(calling(), self.allotted(calling(), k)[0], [4])
            self.runs(turned(), self.allotted(turned(), k)[0], [4])
            for count in [1, 5, 9, 30]:
                self.runs(crowded(count), self.allotted(crowded(count), k)[0], [4, 5])

    def test_only_so_many_registers(self):
        machine, table = self.allotted(crowded(30), 4)
        self.assertTrue(holds(crowded(30), machine, table, 8))
        # The last register is spare, and nothing is to be moved here.
        self.assertTrue(holds(crowded(30), machine, table, 3))
        self.assertFalse(holds(crowded(30), machine, table, 2))

    def test_further_blocks_only_where_something_is_to_be_moved(self):
        # Into the loop and round it; 5 comes to the home of 1 at once.
        self.assertEqual([len(rows) for rows, end in allotted(looped(), 3)[0].functions["main"][2][4:]], [2])
        self.assertEqual(len(allotted(turned(), 3)[0].functions["main"][2]), 3)

    def test_rings_along_edges(self):
        # Params that change their places in each round: a ring of two, a ring of three, and one that stays.
        args = (n(2), n(1), n(4), n(5), n(3), n(6), n(7))
        code = Code({"main": made(
            [NUM], NUM, Block([0], [], Jump((1, (num(1), num(2), num(3), num(4), num(5), num(6), n(0))))),
            Block([1, 2, 3, 4, 5, 6, 7], [TICK] + [noted(n(number)) for number in range(1, 8)], Branch(
                ("truth", True), (1, args), (2, ()))), Block([], [], Back(n(7))))})
        for k in range(2, 9):
            self.runs(code, self.allotted(code, k)[0], [8], range(14))

    def test_a_result_whose_home_is_still_to_be_read(self):
        # Of the risk's edge: a ring of two, and an arg that lies where the result has to come to.
        for call in [False, True]:
            op = ("call", "f", [n(1)]) if call else ("mul", None, [n(1), n(1)])
            rows = [neg(1, n(0)), neg(2, n(0)), add(3, n(0), num(7)), add(4, n(0), num(9))]
            head = Block([20, 21, 22, 23], [TICK], Risk(*op, (2, (n(20), n(22), n(21), n(23))), [("oops", (3, ()))]))
            behind = Block([30, 31, 32, 33, 34], [TICK] + [noted(n(number)) for number in range(30, 35)],
                           Jump((1, (n(30), n(32), n(31), n(33)))))
            main = made([NUM], NUM, Block([0], rows, Jump((1, (n(1), n(2), n(3), n(4))))), head, behind,
                        Block([], [], Back(n(0))))
            code = Code({"main": main, "f": made([NUM], NUM, Block([0], [], Back(num(6))))})
            for k in range(2, 9):
                self.runs(code, self.allotted(code, k)[0], [3], range(12))

    def test_any_thing_as_the_registers(self):
        for thing in things() + [2, 3, 4, 5, 6, 7, 8, 9, 1, -2]:
            good = thing.__class__ is int and 2 <= thing <= 8
            kept = copy.deepcopy(thing)
            self.assertEqual(refusal(allotted, looped(), thing), None if good else ("NoRegisters",), thing)
            self.assertEqual(shown(thing), shown(kept))
        with self.assertRaises(NoRegisters):
            allotted(looped(), True)

    def amiss(self):
        """Codes that are not well made, and what is told of each."""
        code = sample_code()
        yield Code({}), ("main", 0)
        yield Code({"f": looped().functions["main"]}), ("main", 0)
        yield single([], Back(n(4))), ("main", 0)
        yield single([], Jump((1, ()))), ("main", 0)
        yield code.with_function("g", made([NUM], NUM, Block([0], [], Jump((1, ()))), Block([], [], Back(num(1))))), (
            "f", 0)
        yield looped().with_function("z", Function((), NUM, {}, [])), ("z", 0)
        main = looped().functions["main"]
        unticked = Block(main.blocks[1].params, main.blocks[1].rows[1:], main.blocks[1].end)
        yield Code({"main": Function(main.takes, main.gives, main.kinds, [main.blocks[0], unticked, *main.blocks[2:]])
                    }), ("main", 1)

    def test_codes_that_are_not_well_made(self):
        for code, fields in self.amiss():
            self.assertEqual(refusal(need_fit, code), ("NoCode",) + fields)
            for k in [2, 8]:
                self.assertEqual(refusal(allotted, code, k), ("NoCode",) + fields)
            for k in [1, 9, None, [2], True]:
                self.assertEqual(refusal(allotted, code, k), ("NoRegisters",))
        with self.assertRaises(NoCode) as caught:
            allotted(Code({}), 2)
        self.assertEqual((caught.exception.function, caught.exception.block), ("main", 0))

    def test_what_is_told_is_new(self):
        code = sample_code()
        machine, table = allotted(code, 3)
        kept = shown((machine.told(), table))
        for claims in table.values():
            for claim in claims:
                claim.clear()
            claims.clear()
        table.clear()
        machine.functions.clear()
        machine, table = allotted(code, 3)
        self.assertEqual(shown((machine.told(), table)), kept)

    def test_fields_of_the_code_that_were_emptied(self):
        code = sample_code()
        kept = shown(allotted(code, 3)[0].told())
        for function in code.functions.values():
            function.kinds.clear()
        code.functions.clear()
        self.assertEqual(shown(allotted(code, 3)[0].told()), kept)

    def test_by_chance(self):
        frames = 0
        for seed in range(200):
            drawer, sower = Drawer(seed), Sower(seed, size=60)
            takes = next(head[1] for head in sower.heads if head[0] == "main")
            pairs = [(drawer.code(), drawer.inputs()), (sown_code(sower), [sower.value(kind) for text, kind in takes])]
            for code, inputs in pairs:
                for k in [2, 3 + seed % 6]:
                    machine, table = self.allotted(code, k)
                    self.runs(code, machine, inputs)
                    frames += max(function[1] for function in machine.functions.values()) > 4
        self.assertGreater(frames, 40)

    def test_great_codes(self):
        rows = [add(place + 1, n(place), num(1)) for place in range(14900)]
        straight = Code({"main": made([NUM], NUM, Block([0], rows, Back(n(14900))))})
        blocks = [Block([0], [], Jump((1, (n(0),))))]
        blocks += [Block([place], [], Jump((place + 1, (n(place),)))) for place in range(1, 4999)]
        blocks.append(Block([4999], [], Back(n(4999))))
        for code, answer in [(straight, 14907), (Code({"main": made([NUM], NUM, *blocks)}), 7), (crowded(1500), 3)]:
            machine, table = allotted(code, 5)
            self.assertTrue(holds(code, machine, table, 5))
            self.assertEqual(MachineOracle(machine, 0).run([7, 1][:len(code.functions["main"].takes)])[:2],
                             ("answer", num(answer)))


if __name__ == "__main__":
    unittest.main()
