"""Points 4, 100 and 101: loops, how many loops have a block, and the blocks that lead to a block."""

import unittest
from random import Random

from eachstepsame.blocks import Back, Block, Branch, Function, Jump, Risk
from eachstepsame.fits import followers, reached
from eachstepsame.loops import depths, leading_to, loops_of
from tests.helper import NUM, YES, Drawer, Sower, graph, n, num, sample_code, sample_main, shown, sown_code


def come_to(ways, begin, shut=()):
    """The blocks to which one comes from begin, itself among them, without going through those that are shut."""
    found = [] if begin in shut else [begin]
    for number in found:
        found.extend(sorted(set(ways[number]) - set(found) - set(shut)))
    return set(found)


def loops_by_hand(ways):
    """A second reading of 100: of each block of each graph it is asked by itself whether one comes so from it."""
    there, found = come_to(ways, 0), []
    for head in sorted(there):
        ruled = there - come_to(ways, 0, [head])
        closing = {number for number in ruled if head in ways[number]}
        if closing:
            inside = {number for number in there if come_to(ways, number, [head]) & closing} | {head}
            found.append((head, sorted(inside)))
    return found


def counts_by_hand(ways):
    loops = loops_by_hand(ways)
    return [sum(number in blocks for head, blocks in loops) for number in range(len(ways))]


class ByHand(unittest.TestCase):
    def loops(self, ways, wanted, counts):
        function = graph(*ways)
        self.assertEqual(shown(loops_of(function)), shown(wanted))
        self.assertEqual(shown(depths(function)), shown(counts))
        self.assertEqual(loops_by_hand(ways), wanted)
        self.assertEqual(counts_by_hand(ways), counts)

    def test_none(self):
        self.loops([[]], [], [0])
        self.loops([[1], []], [], [0, 0])
        self.loops([[1, 2], [3], [3], []], [], [0, 0, 0, 0])
        # Two edges to one block, and edges to lower numbers, make no loop by themselves.
        self.loops([[1, 1], []], [], [0, 0])
        self.loops([[3], [], [1], [2]], [], [0, 0, 0, 0])

    def test_no_blocks(self):
        empty = Function((), NUM, {}, [])
        self.assertEqual((loops_of(empty), depths(empty), leading_to(empty)), ([], [], {}))

    def test_one(self):
        self.loops([[1], [2, 3], [1], []], [(1, [1, 2])], [0, 1, 1, 0])
        self.loops([[1], [2], [3], [1]], [(1, [1, 2, 3])], [0, 1, 1, 1])
        # The head has a greater number than the rest.
        self.loops([[3], [3], [], [1, 2]], [(3, [1, 3])], [0, 1, 0, 1])

    def test_a_block_that_is_its_own_loop(self):
        self.loops([[1], [1, 2], []], [(1, [1])], [0, 1, 0])
        self.loops([[1], [1]], [(1, [1])], [0, 1])
        self.loops([[1], [1, 1]], [(1, [1])], [0, 1])

    def test_its_own_loop_and_a_greater_one(self):
        self.loops([[1], [1, 2, 3], [1], []], [(1, [1, 2])], [0, 1, 1, 0])
        # One within another one is its own loop.
        self.loops([[1], [2, 3], [2, 1], []], [(1, [1, 2]), (2, [2])], [0, 1, 2, 0])

    def test_within_one_another(self):
        self.loops([[1], [2, 6], [3, 5], [4], [2], [1], []], [(1, [1, 2, 3, 4, 5]), (2, [2, 3, 4])],
                   [0, 1, 2, 2, 2, 1, 0])
        self.loops([[1], [2], [3], [3, 4], [2, 5], [1, 6], []],
                   [(1, [1, 2, 3, 4, 5]), (2, [2, 3, 4]), (3, [3])], [0, 1, 2, 3, 2, 1, 0])
        # Two beside one another, within a third one; heads rise, whatever order they are come to in.
        self.loops([[6], [1, 3], [], [3, 5], [2], [6], [1, 2]], [(1, [1]), (3, [3]), (6, [1, 3, 5, 6])],
                   [0, 2, 0, 2, 0, 1, 1])

    def test_one_behind_the_other(self):
        self.loops([[1], [2, 3], [1], [4, 5], [3], []], [(1, [1, 2]), (3, [3, 4])], [0, 1, 1, 1, 1, 0])

    def test_several_edges_back_to_one_head(self):
        # One loop for each head, all that leads back to it in it.
        self.loops([[1], [2, 3], [1], [1, 4], []], [(1, [1, 2, 3])], [0, 1, 1, 1, 0])
        self.loops([[1], [2, 5], [3, 4], [1], [1], []], [(1, [1, 2, 3, 4])], [0, 1, 1, 1, 1, 0])
        self.loops([[1], [2, 2], [1, 1]], [(1, [1, 2])], [0, 1, 1])

    def test_ways_out_of_a_loop_are_not_in_it(self):
        self.loops([[1], [2, 3], [1, 4], [5], [5], []], [(1, [1, 2])], [0, 1, 1, 0, 0, 0])

    def test_two_ways_in_make_no_loop(self):
        # 1 and 2 lead to one another, and neither rules the other one.
        self.loops([[1, 2], [2], [1]], [], [0, 0, 0])
        self.loops([[1, 2], [2, 3], [1], []], [], [0, 0, 0, 0])

    def test_two_ways_in_within_a_loop(self):
        # 2 and 3 are no heads, but both are in the loop of 1.
        self.loops([[1], [2, 3], [3], [2, 1]], [(1, [1, 2, 3])], [0, 1, 1, 1])

    def test_an_edge_back_from_a_block_that_the_head_does_not_rule(self):
        # 1 is a head by 3; 2 leads to it too, and from outside.
        self.loops([[1, 2], [3], [1], [1, 4], []], [(1, [1, 3])], [0, 1, 0, 1, 0])
        # One comes from the loop of 1 to 4 and back to 1, but to 4 also from 0; so nothing of this is a loop.
        self.loops([[1, 4], [2], [4], [], [1, 3]], [], [0, 0, 0, 0, 0])
        # With 2 leading straight back it is one, of 1 and 2; 4 is outside of it, though one comes back from it.
        self.loops([[1, 4], [2], [1, 4], [], [1, 3]], [(1, [1, 2])], [0, 1, 1, 0, 0])
        self.loops([[1, 4], [1, 2], [4], [], [1, 3]], [(1, [1])], [0, 1, 0, 0, 0])

    def test_two_heads_that_share_blocks(self):
        # From 3 one comes back to both; the one of 1 has all, that of 2 its own.
        self.loops([[1], [2], [3], [1, 2]], [(1, [1, 2, 3]), (2, [2, 3])], [0, 1, 2, 2])
        self.loops([[1], [2, 3], [1], [3, 1]], [(1, [1, 2, 3]), (3, [3])], [0, 1, 1, 2])

    def test_blocks_to_which_nobody_comes(self):
        # A loop of theirs is none.
        self.loops([[], [1]], [], [0, 0])
        self.loops([[1], [], [3], [2]], [], [0, 0, 0, 0])
        # An edge of theirs to a head, or into a loop, is not looked at.
        self.loops([[1], [2], [1], [1, 2]], [(1, [1, 2])], [0, 1, 1, 0])
        self.loops([[1], [], [1]], [], [0, 0, 0])
        # One without the other wouldn't rule: 2 rules 3, as nobody comes to 4.
        self.loops([[1], [2], [3, 5], [2], [3], []], [(2, [2, 3])], [0, 0, 1, 1, 0, 0])
        # One that leads to a closing block isn't in the loop, nor counted.
        self.loops([[1], [2], [1], [2], [3]], [(1, [1, 2])], [0, 1, 1, 0, 0])

    def test_all_sorts_of_ends(self):
        self.assertEqual(loops_of(sample_main()), [(1, [1, 2, 3])])
        self.assertEqual(depths(sample_main()), [0, 1, 1, 1, 0, 0, 0, 0])
        # By a risk's own edge, and by that of a catch.
        blocks = [Block((), [], Jump((1, (num(0),)))),
                  Block((0,), [], Risk("div", None, [n(0), n(0)], (1, ()), [("zero", (2, ())), ("a", (1, (n(0),)))])),
                  Block((), [], Branch(YES, (3, ()), (1, (num(1),)))), Block((), [], Back(num(1)))]
        function = Function((), NUM, {0: NUM}, blocks)
        self.assertEqual(loops_of(function), [(1, [1, 2])])
        self.assertEqual(leading_to(function), {1: [0, 1, 2], 2: [1], 3: [2]})


class LeadingTo(unittest.TestCase):
    def test_by_hand(self):
        for ways, wanted in [
            ([[]], {}), ([[1], []], {1: [0]}), ([[1, 1], []], {1: [0]}), ([[1, 2], [2], []], {1: [0], 2: [0, 1]}),
            ([[2], [2], [1]], {2: [0, 1], 1: [2]}), ([[1], [1]], {1: [0, 1]}), ([[], [1]], {}), ([[], [2], [1]], {}),
            # Blocks to which nobody comes lead to nothing, and nothing leads to them.
            ([[1], [], [1, 3], []], {1: [0]}), ([[4], [4], [4, 3], [4], [1, 3, 2]], {4: [0, 1, 2, 3], 1: [4], 3: [2, 4],
                                                                                     2: [4]}),
        ]:
            found = leading_to(graph(*ways))
            self.assertIs(found.__class__, dict)
            self.assertEqual({number: shown(some) for number, some in found.items()},
                             {number: shown(some) for number, some in wanted.items()})

    def test_by_chance(self):
        for seed in range(300):
            function = graph(*some_ways(seed))
            there = reached(function)
            wanted = {number: [one for one in there if number in followers(function, one)] for number in there}
            self.assertEqual(leading_to(function), {number: some for number, some in wanted.items() if some})


def some_ways(seed):
    chance = Random(seed)
    count = chance.randrange(1, 11)
    most = chance.choice([2, 2, 3, 5])
    return [[chance.randrange(1, count) for edge in range(chance.randrange(most + 1))] if count > 1 else []
            for number in range(count)]


class Told(unittest.TestCase):
    def test_new_each_time(self):
        function = graph([1], [2, 3], [2, 1], [])
        kept = shown((function.told(), loops_of(function), depths(function), leading_to(function)))
        for head, blocks in loops_of(function):
            blocks.clear()
        loops_of(function).clear()
        depths(function).clear()
        for some in leading_to(function).values():
            some.clear()
        leading_to(function).clear()
        self.assertEqual(shown((function.told(), loops_of(function), depths(function), leading_to(function))), kept)
        lists = [blocks for head, blocks in loops_of(function)] + [loops_of(function), depths(function)]
        lists += list(leading_to(function).values())
        self.assertEqual({some.__class__ for some in lists}, {list})
        self.assertEqual({one.__class__ for one in loops_of(function)}, {tuple})

    def test_no_two_share_a_list(self):
        function = graph([1], [1, 2], [2, 3], [])
        loops = loops_of(function)
        loops[0][1].append(7)
        self.assertEqual(loops, [(1, [1, 7]), (2, [2])])


class ByChance(unittest.TestCase):
    def same(self, function):
        ways = [followers(function, number) for number in range(len(function.blocks))]
        kept = shown(function.told())
        self.assertEqual(shown(loops_of(function)), shown(loops_by_hand(ways)))
        self.assertEqual(shown(depths(function)), shown(counts_by_hand(ways)))
        self.assertEqual(shown(function.told()), kept)
        return len(loops_of(function))

    def test_graphs(self):
        found = [self.same(graph(*some_ways(seed))) for seed in range(1500)]
        self.assertGreater(sum(count > 0 for count in found), 400)
        self.assertGreater(sum(count > 1 for count in found), 80)

    def test_programs_and_drawn_codes(self):
        found = 0
        for seed in range(200):
            for code in [sown_code(Sower(seed, size=80)), Drawer(seed, size=12).code()]:
                found += sum(self.same(function) for function in code.functions.values())
        self.assertGreater(found, 200)
        self.assertEqual(sum(self.same(function) for function in sample_code().functions.values()), 1)

    def test_great_functions(self):
        # A row of many blocks in one loop, and as many loops within one another.
        count = 5000
        function = graph(*([[number + 1] for number in range(count - 1)] + [[1]]))
        self.assertEqual(loops_of(function), [(1, list(range(1, count)))])
        self.assertEqual(depths(function), [0] + [1] * (count - 1))
        half = 400
        ways = [[number + 1] for number in range(half)] + [[half + 1]]
        ways += [[number + 1, 2 * half - number + 1] for number in range(half + 1, 2 * half + 1)] + [[]]
        function = graph(*ways)
        self.assertEqual(loops_of(function), [(head, list(range(head, 2 * half - head + 2)))
                                              for head in range(1, half + 1)])
        rising = list(range(half + 1))
        self.assertEqual(depths(function), rising + rising[:0:-1] + [0])


if __name__ == "__main__":
    unittest.main()
