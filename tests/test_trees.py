"""Points 4 and 20 to 23: names, and the nodes beneath a node."""

import copy
import unittest

from eachstepsame.trees import counted, is_name, parts_in
from tests.helper import NUM, TRUTH, shown, things

A = ("name", "a")
B = ("two", "+", ("num", 1), ("name", "b"))
C = ("truth", True)
LET = ("let", "x", ("num", 3))
LOG = ("log", ("name", "x"))
RAISE = ("raise", "oops")
DO = ("do", ("call", "f", (A, B)))

# Each node, the nodes right beneath it, and how many it and all beneath it are.
EXPRESSIONS = [
    (("num", 0), [], 1),
    (("num", 10 ** 20 - 1), [], 1),
    (("truth", False), [], 1),
    (("name", "x"), [], 1),
    (("one", "-", B), [B], 4),
    (("one", "not", C), [C], 2),
    (("call", "f", ()), [], 1),
    (("call", "f", (A, B, C, A)), [A, B, C, A], 7),
    (("new", "point", (B,)), [B], 4),
    (("new", "point", (A, C)), [A, C], 3),
    (("row", (A,)), [A], 2),
    (("row", (A, B, A, B, A, C)), [A, B, A, B, A, C], 11),
    (("field", B, "left"), [B], 4),
    (("field", A, "a"), [A], 2),
    (("index", A, B), [A, B], 5),
    (("index", B, A), [B, A], 5),
]

ROWS = [
    (("let", "x", B), [B], 4),
    (("set", "x", A), [A], 2),
    (("setat", "x", A, B), [A, B], 5),
    (("setat", "x", B, A), [B, A], 5),
    (("setfield", "x", "left", B), [B], 4),
    (("if", A, (LET, LOG), (RAISE,)), [A, LET, LOG, RAISE], 7),
    (("if", A, (), (RAISE, DO)), [A, RAISE, DO], 9),
    (("if", A, (DO,), ()), [A, DO], 8),
    (("if", C, (), ()), [C], 2),
    (("while", C, (LET, LOG)), [C, LET, LOG], 6),
    (("while", A, ()), [A], 2),
    (("log", B), [B], 4),
    (("do", A), [A], 2),
    (("return", B), [B], 4),
    (("raise", "oops"), [], 1),
    (("try", (LET, RAISE), (("oops", (LOG,)),)), [LET, RAISE, LOG], 6),
    (("try", (LET,), (("one", (LOG, DO)), ("two", ()), ("three", (RAISE,)))), [LET, LOG, DO, RAISE], 12),
    (("try", (), (("oops", ()),)), [], 1),
    (("try", (), (("oops", (LOG,)),)), [LOG], 3),
]

FUNCTIONS = [
    (("fun", "main", (), NUM, ()), [], 1),
    (("fun", "main", (("a", NUM), ("b", ("named", "point"))), ("row", 3), (LET, LOG, RAISE)), [LET, LOG, RAISE], 6),
    (("fun", "f", (("a", TRUTH),), TRUTH, (("return", A),)), [("return", A)], 3),
]

ALL = EXPRESSIONS + ROWS + FUNCTIONS


def deep(depth):
    node = ("num", 1)
    for level in range(depth):
        node = ("one", "-", node)
    return node


class Names(unittest.TestCase):
    def test_names(self):
        for name in ["a", "z", "main", "abcdefgh", "zzzzzzzz", "while", "num"]:
            self.assertIs(is_name(name), True, name)
        for letter in "abcdefghijklmnopqrstuvwxyz":
            self.assertIs(is_name(letter), True)

    def test_lengths(self):
        told = [is_name("n" * length) for length in [0, 1, 8, 9, 100]]
        self.assertEqual(told, [False, True, True, False, False])

    def test_every_other_sign(self):
        letters = "abcdefghijklmnopqrstuvwxyz"
        for code in range(32, 127):
            sign = chr(code)
            for text in [sign, "a" + sign, sign + "a", "a" + sign + "b"]:
                self.assertIs(is_name(text), sign in letters, text)

    def test_wrong_texts(self):
        for text in ["A", "aB", "a1", "1", "a_b", "_", " ", "a ", " a", "a b", "a-b", "Main", "ABC"]:
            self.assertIs(is_name(text), False, text)

    def test_any_thing(self):
        names = ["a", "num", "truth", "row", "record", "name", "copy", "add", "mul", "zero", "call"]
        for thing in things():
            self.assertIs(is_name(thing), shown(thing) in [shown(name) for name in names], thing)
        for thing in [("a",), ["a"], {"a": 1}, ("a", "b"), ["m", "a"]]:
            self.assertIs(is_name(thing), False)


class Parts(unittest.TestCase):
    def test_nodes_right_beneath(self):
        for node, beneath, count in ALL:
            self.assertEqual(shown(parts_in(node)), shown(beneath), node)

    def test_all_operators(self):
        for op in ["+", "-", "*", "/", "mod", "<", "=", "and", "or"]:
            self.assertEqual(parts_in(("two", op, A, C)), [A, C])
            self.assertEqual(parts_in(("two", op, C, A)), [C, A])
            self.assertEqual(counted(("two", op, A, B)), 5)

    def test_names_that_are_called_like_words(self):
        for word in ["num", "row", "if", "try", "fun", "call", "let"]:
            self.assertEqual(parts_in(("name", word)), [])
            self.assertEqual(parts_in(("raise", word)), [])
            self.assertEqual(parts_in(("call", word, (A,))), [A])
            self.assertEqual(parts_in(("let", word, A)), [A])
            self.assertEqual(parts_in(("field", A, word)), [A])
            self.assertEqual(parts_in(("setfield", word, word, A)), [A])
            self.assertEqual(parts_in(("try", (LOG,), ((word, (DO,)),))), [LOG, DO])

    def test_the_list_is_the_askers_own(self):
        for node, beneath, count in ALL:
            kept = copy.deepcopy(node)
            first = parts_in(node)
            self.assertIsInstance(first, list)
            first.clear()
            first.append(RAISE)
            self.assertEqual(parts_in(node), beneath)
            self.assertEqual(shown(node), shown(kept))


class Counted(unittest.TestCase):
    def test_how_many(self):
        for node, beneath, count in ALL:
            self.assertEqual(counted(node), count, node)

    def test_one_more_than_all_beneath(self):
        for node, beneath, count in ALL:
            self.assertEqual(counted(node), 1 + sum(counted(part) for part in parts_in(node)))

    def test_within_one_another(self):
        row = LOG
        for level in range(9):
            row = ("if", C, (row,), (("while", C, (RAISE,)),))
        self.assertEqual(counted(("fun", "main", (), NUM, (row, row))), 1 + 2 * (2 + 9 * 5))

    def test_deep_trees(self):
        self.assertEqual(counted(deep(29)), 30)
        self.assertEqual(counted(deep(60)), 61)

    def test_wide_trees(self):
        rows = (("log", ("num", 1)),) * 1499
        self.assertEqual(counted(("fun", "main", (), NUM, rows)), 2999)

    def test_the_same_again(self):
        for node, beneath, count in ALL:
            kept = copy.deepcopy(node)
            self.assertEqual([counted(node), counted(node)], [count, count])
            self.assertEqual(shown(node), shown(kept))


if __name__ == "__main__":
    unittest.main()
