"""Points 2 to 5 and 63 to 65: from tree to blocks."""

import unittest
from collections import Counter

from eachstepsame.blockrun import run_blocks
from eachstepsame.blocks import Back, Code, Jump, Raise, Risk
from eachstepsame.fits import need_fit
from eachstepsame.lowering import lowered
from eachstepsame.ops import is_risky
from eachstepsame.sourcerun import run_source
from eachstepsame.typer import Typed, typed
from tests.helper import (
    NO, NUM, TRUTH, YES, Sower, back, call, choice, do, fails, field, fun, index, let, log, loop, main, name, new,
    nodes,
    num, one, put, row, setat, setfield, shown, trying, two,
)

FAULTS = {"mul": "great", "div": "zero", "mod": "zero", "pick": "range", "lay": "range"}
PAIR = ("pair", (("left", NUM), ("right", TRUTH)))
LIKE = ("like", (("left", NUM), ("right", TRUTH)))
F = fun("f", [("x", NUM)], NUM, choice(two("<", name("x"), num(0)), [fails("oops")]), back(name("x")))
BUDGETS = [0, 1, 2, 3, 5, 9, 40]


def with_f(*rows, takes=(("n", NUM),)):
    return ((PAIR, LIKE), (F, fun("main", takes, NUM, *rows)))


class Wanted:
    """What points 64 and 65 want of one function of a typed tree, counted: a second reading of them."""

    def __init__(self, function):
        self.found, self.jumps = Counter(), Counter()
        if self.rows(function[2], []):
            self.found["raise", "end"] += 1

    def rows(self, rows, tries):
        """Whether they go on. Tries are tuples (dict from faults to marks, set of faults by which something leads)."""
        return all(self.row(line, tries) for line in rows)

    def row(self, line, tries):
        word = line[0]
        if word == "raise":
            mark = self.caught(line[1], tries)
            if mark is None:
                self.found["raise", line[1]] += 1
            else:
                self.jumps[mark] += 1
            return False
        if word == "try":
            return self.trying(line, tries)
        if word == "while":
            self.found["tick"] += 1
            self.expression(line[1], tries)
            self.rows(line[2], tries)
            return True
        self.expression(line[2] if word in ("let", "set") else line[1], tries)
        if word == "if":
            sides = [self.rows(side, tries) for side in line[2:]]
            return any(sides)
        if word in ("log", "return"):
            self.found[word] += 1
        return word != "return"

    def trying(self, line, tries):
        marks, led = {fault: self.mark(rows) for fault, rows in line[2]}, set()
        goes_on = self.rows(line[1], tries + [(marks, led)])
        for fault, rows in line[2]:
            if fault in led:
                goes_on = self.rows(rows, tries) or goes_on
        return goes_on

    def mark(self, rows):
        return rows[0][1][1][1] if rows and rows[0][0] == "log" and rows[0][1][0] == "const" else None

    def caught(self, fault, tries):
        for marks, led in reversed(tries):
            if fault in marks:
                led.add(fault)
                return marks[fault] or fault
        return None

    def expression(self, node, tries):
        if node[0] in ("const", "local"):
            return
        for part in node[2] if node[0] == "call" else node[3]:
            self.expression(part, tries)
        if node[0] == "op" and not is_risky(node[1]):
            self.found["row", node[1], node[2]] += 1
            return
        faults = {fault for marks, led in tries for fault in marks} if node[0] == "call" else {FAULTS[node[1]]}
        ways = {(fault, self.caught(fault, tries)) for fault in faults}
        ways = frozenset(way for way in ways if way[1] is not None)
        word, extra = ("call", node[1]) if node[0] == "call" else (node[1], node[2])
        self.found["risk", word, extra, ways] += 1


def mark_at(function, edge):
    rows = function.blocks[edge[0]].rows
    return rows[0].operands[0][1] if rows and rows[0].op == "log" and rows[0].operands[0][0] == "num" else None


def found_in(function, marked):
    """The same of the code that was made; where marks were put, each catch leads to its own."""
    found, jumps = Counter(), Counter()
    for block in function.blocks:
        for line in block.rows:
            found[line.op if line.op in ("log", "tick") else ("row", line.op, line.extra)] += 1
        end = block.end
        if isinstance(end, Back):
            found["return"] += 1
        if isinstance(end, Raise):
            found["raise", end.fault] += 1
        if isinstance(end, Risk):
            ways = {(fault, mark_at(function, edge) if marked else fault) for fault, edge in end.catches}
            found["risk", end.op, end.extra, frozenset(ways)] += 1
        if isinstance(end, Jump):
            jumps[mark_at(function, end.edge)] += 1
    return found, jumps


class Marker:
    """Puts a log of a number of its own ahead of the rows of each catch of a typed tree."""

    def __init__(self):
        self.last = 7000

    def function(self, function):
        return function[:2] + (self.rows(function[2]),)

    def rows(self, rows):
        return tuple(self.row(line) for line in rows)

    def row(self, line):
        if line[0] == "if":
            return line[:2] + (self.rows(line[2]), self.rows(line[3]))
        if line[0] == "while":
            return line[:2] + (self.rows(line[2]),)
        if line[0] != "try":
            return line
        catches = []
        for fault, rows in line[2]:
            self.last += 1
            catches.append((fault, (("log", ("const", ("num", self.last))),) + self.rows(rows)))
        return ("try", self.rows(line[1]), tuple(catches))


class Lowered(unittest.TestCase):
    def same(self, program, *inputs, budgets=BUDGETS):
        """The code is as the points want it, and its runs as those of the tree; the code is told."""
        tree = typed(program)
        kept = shown(tree.functions)
        code = lowered(tree)
        self.as_wanted(tree, code, shown(program))
        for handed in inputs or [()]:
            for budget in budgets:
                run, ran = run_source(tree, list(handed), budget), run_blocks(code, list(handed), budget)
                self.assertEqual(shown(ran.seen()), shown(run.seen()), (program, handed, budget))
                self.assertLessEqual(ran.steps, code.width() * (ran.took + 1))
        self.assertEqual(shown(tree.functions), kept)
        return code

    def as_wanted(self, tree, code, say, marked=False):
        self.assertIsInstance(code, Code)
        need_fit(code)
        self.assertEqual(code.names(), sorted(tree.functions))
        for text, function in tree.functions.items():
            made = code.functions[text]
            self.assertEqual((made.takes, made.gives), (tuple(kind for take, kind in function[0]), function[1]))
            self.within_bounds(made)
            wanted = Wanted(function)
            found, jumps = found_in(made, marked)
            if not marked:
                wanted.found = Counter(self.unmarked(wanted.found))
            self.assertEqual(found, wanted.found, say)
            if marked:
                self.assertEqual({mark: count for mark, count in jumps.items() if mark in wanted.jumps}, wanted.jumps,
                                 say)
        self.assertEqual(shown(lowered(tree).told()), shown(code.told()))

    def unmarked(self, found):
        for thing in found.elements():
            if thing[0] == "risk":
                thing = thing[:3] + (frozenset((fault, fault) for fault, mark in thing[3]),)
            yield thing

    def within_bounds(self, made):
        self.assertLessEqual(len(made.blocks), 5000)
        self.assertLessEqual(made.width(), 15000)
        for text in made.kinds:
            self.assertIs(text.__class__, int)
            self.assertTrue(0 <= text <= 1000000)

    def ends(self, code, text="main"):
        return [block.end.told()[:1 if not isinstance(block.end, (Raise, Risk)) else 2]
                for block in code.functions[text].blocks]

    def rows_of(self, code, text="main"):
        return [line.told()[1:3] for block in code.functions[text].blocks for line in block.rows]


class Plain(Lowered):
    def test_heads(self):
        takes = [("a", NUM), ("b", TRUTH), ("c", ("row", 3)), ("d", ("named", "pair"))]
        program = ((PAIR,), (fun("g", takes, ("named", "pair"), back(name("d"))), fun("main", [], NUM)))
        code = self.same(program)
        record = ("record", (NUM, TRUTH))
        self.assertEqual(code.functions["g"].takes, (NUM, TRUTH, ("row", 3), record))
        self.assertEqual(code.functions["g"].gives, record)
        self.assertEqual(code.functions["main"].takes, ())

    def test_the_end_of_a_function(self):
        self.assertEqual(self.ends(self.same(main())), [("raise", "end")])
        self.assertEqual(self.ends(self.same(main(log(num(1))))), [("raise", "end")])
        self.assertEqual(self.ends(self.same(main(back(num(1))))), [("back",)])
        self.assertEqual(self.ends(self.same(main(fails("oops")))), [("raise", "oops")])
        self.assertEqual(self.ends(self.same(main(fails("end")))), [("raise", "end")])
        self.same(main(choice(YES, [back(num(1))])))
        self.same(main(choice(NO, [back(num(1))], [fails("a")])))
        self.same(main(loop(YES, back(num(1)))))
        self.same(main(trying([back(num(1))], ("a", []))))
        self.same(main(trying([do(two("/", num(1), num(0)))], ("end", [back(num(2))]))))

    def test_lets_and_sets_are_no_rows(self):
        code = self.same(with_f(let("x", name("n")), let("y", name("x")), put("x", num(5)), put("y", name("x")),
                                log(name("y")), log(name("n")), back(name("x"))), [3])
        self.assertEqual(self.rows_of(code), [("log", None)] * 2)

    def test_operations(self):
        x, y = name("n"), name("m")
        code = self.same(((), (fun("main", [("n", NUM), ("m", NUM)], NUM,
                                   log(two("+", x, y)), log(two("-", x, y)), log(two("<", x, y)), log(two("=", x, y)),
                                   log(two("and", YES, two("or", NO, one("not", YES)))), log(one("-", x)),
                                   log(two("*", x, y)), log(two("/", x, y)), log(two("mod", x, y))),)),
                         [3, 4], [4, 4], [-7, 2], [1, 0], [10 ** 49, 10])
        self.assertEqual([told for told in self.rows_of(code) if told[0] != "log"],
                         [(op, None) for op in ["add", "sub", "less", "same", "not", "or", "and", "neg"]])
        self.assertEqual([end for end in self.ends(code) if end[0] == "risk"],
                         [("risk", "mul"), ("risk", "div"), ("risk", "mod")])

    def test_extras(self):
        code = self.same(with_f(
            let("r", row(name("n"), num(2), num(3))), let("p", new("pair", num(1), YES)), let("q",
                                                                                              new("like", num(5), NO)),
            setat("r", num(1), num(9)), setfield("p", "right", NO), setfield("q", "left", index(name("r"), name("n"))),
            log(field(name("p"), "right")), log(field(name("q"), "left")), back(index(name("r"), num(1)))),
            [0], [1], [3], [-1])
        record = ("record", (NUM, TRUTH))
        self.assertEqual([told for told in self.rows_of(code) if told[0] != "log"],
                         [("make", ("row", 3)), ("make", record), ("make", record), ("put", 1), ("put", 0), ("get", 1),
                          ("get", 0)])
        self.assertEqual([block.end.told()[1:3] for block in code.functions["main"].blocks
                          if isinstance(block.end, Risk)], [("lay", None), ("pick", None), ("pick", None)])

    def test_values_of_rows_and_records_stay(self):
        self.same(with_f(let("r", row(num(1), num(2))), let("s", name("r")), setat("s", num(0), num(7)),
                         log(index(name("r"), num(0))), log(index(name("s"), num(0))), let("p", new("pair", num(1),
                                                                                                    YES)),
                         let("q", name("p")), setfield("q", "left", num(8)), log(field(name("p"), "left")),
                         log(field(name("q"), "left"))), [1])

    def test_operands_from_the_left_to_the_right(self):
        g = fun("g", [("x", NUM)], NUM, log(name("x")), back(name("x")))
        rows = [log(two("-", call("g", num(1)), two("*", call("g", num(2)), call("g", num(3))))),
                let("r", row(call("g", num(4)), call("g", num(5)))),
                setat("r", call("g", num(0)), call("g", num(6))),
                do(call("g", two("+", call("g", num(7)), call("g", num(8))))),
                back(index(name("r"), call("g", num(1))))]
        code = self.same(((), (g, fun("main", [], NUM, *rows))), budgets=range(13))
        self.assertEqual(run_blocks(code, [], 50).log,
                         [("num", value) for value in [1, 2, 3, 1 - 6, 4, 5, 0, 6, 7, 8, 15, 1]])

    def test_a_name_keeps_its_value_while_what_is_laid_is_reckoned(self):
        self.same(with_f(let("r", row(num(1), num(2))),
                         setat("r", index(name("r"), num(0)), two("*", index(name("r"), num(1)), name("n"))),
                         log(index(name("r"), num(1))), log(index(name("r"), num(0)))), [5], [0])

    def test_constants_are_operands(self):
        self.assertEqual(self.rows_of(self.same(main(log(YES), log(num(0)), do(NO), back(num(10 ** 20 - 1))))),
                         [("log", None)] * 2)

    def test_deep_calls(self):
        deep = fun("deep", [("x", NUM)], NUM, choice(two("=", name("x"), num(0)), [back(num(0))]),
                   back(two("+", num(1), call("deep", two("-", name("x"), num(1))))))
        program = ((), (deep, fun("main", [("x", NUM)], NUM, back(call("deep", name("x"))))))
        code = self.same(program, [3], [0], [-1])
        self.assertEqual(run_blocks(code, [5000], 10000).seen(), ("answer", ("num", 5000), (), 5001))
        self.assertEqual(run_blocks(code, [-1], 10000).seen(), ("dry", None, (), 10000))


class Choices(Lowered):
    def test_names_set_on_one_side_and_on_both(self):
        for yes, no in [([put("x", num(1))], []), ([], [put("x", num(2))]), ([put("x", num(1))], [put("x", num(2))]),
                        ([put("x", name("n")), put("y", num(8))], [put("y", name("x"))]), ([], []),
                        ([put("x", num(1)), back(name("x"))], [put("y", num(3))])]:
            self.same(with_f(let("x", num(5)), let("y", num(6)), choice(two("<", name("n"), num(0)), yes, no),
                             log(name("x")), log(name("y")), back(name("n"))), [1], [-1])

    def test_both_sides_are_put_whatever_the_test(self):
        code = self.same(main(choice(YES, [log(num(1))], [log(num(2))]), back(num(3))))
        self.assertEqual(self.rows_of(code), [("log", None)] * 2)
        self.assertEqual(len([end for end in self.ends(code) if end == ("branch",)]), 1)

    def test_two_lets_of_one_name_in_braces_apart(self):
        self.same(with_f(choice(two("<", name("n"), num(0)), [let("x", num(1)), log(name("x"))],
                                [let("x", YES), put("x", NO), log(name("x"))]),
                         let("x", row(num(1), name("n"))), setat("x", num(0), num(4)), log(index(name("x"), num(0))),
                         back(index(name("x"), num(1)))), [1], [-1])
        self.same(with_f(choice(YES, [let("x", NO)]), let("x", num(1)), loop(two("<", name("x"), name("n")),
                                                                            put("x", two("+", name("x"), num(1)))),
                         back(name("x"))), [0], [5])
        self.same(with_f(trying([let("x", num(1)), do(call("f", name("n"))), log(name("x"))],
                                ("oops", [let("x", YES), log(name("x"))])),
                         let("x", new("pair", name("n"), NO)), log(field(name("x"), "right"))), [1], [-1])

    def test_a_test_that_faults_or_calls(self):
        self.same(with_f(let("x", num(1)), trying([
            put("x", num(2)), choice(two("<", num(0), call("f", name("n"))), [put("x", num(3))], [put("x", num(4))]),
            log(name("x"))], ("oops", [log(name("x"))])), back(name("x"))), [1], [0], [-1])


class Loops(Lowered):
    def test_a_tick_each(self):
        code = self.same(with_f(loop(two("<", num(0), name("n")), log(name("n")),
                                     put("n", two("-", name("n"), num(1)))), back(name("n"))), [0], [3], [50],
                         budgets=range(6))
        self.assertEqual([told for told in self.rows_of(code) if told[0] == "tick"], [("tick", None)])

    def test_loops_within_loops(self):
        inner = loop(two("<", num(0), name("m")), put("m", two("-", name("m"), num(1))),
                     put("s", two("+", name("s"), name("n"))))
        code = self.same(with_f(let("s", num(0)), loop(two("<", num(0), name("n")), let("m", name("n")), inner,
                                                       put("n", two("-", name("n"), num(1)))), back(name("s"))),
                         [0], [1], [4], budgets=[0, 1, 2, 3, 4, 5, 6, 7, 8, 14, 15, 16, 90])
        self.assertEqual(self.rows_of(code).count(("tick", None)), 2)

    def test_loops_that_are_left(self):
        for rows in [[back(name("n"))], [fails("oops")], [choice(YES, [back(num(1))], [fails("b")])], [],
                     [put("n", num(0)), trying([fails("a")], ("a", [back(num(4))]))],
                     [trying([fails("a")], ("a", [put("n", num(0))]))]]:
            self.same(with_f(loop(two("<", num(0), name("n")), *rows), log(name("n"))), [0], [2])

    def test_names_that_change_places(self):
        self.same(with_f(let("a", num(1)), let("b", num(2)), let("c", YES),
                         loop(two("<", num(0), name("n")), let("t", name("a")), put("a", name("b")),
                              put("b", name("t")),
                              put("c", one("not", name("c"))), put("n", two("-", name("n"), num(1)))),
                         log(name("a")), log(name("b")), log(name("c"))), [0], [1], [2], [3])

    def test_a_test_with_calls_and_faults(self):
        self.same(with_f(let("i", num(3)), trying([loop(two("<", two("-", num(0), num(9)), call("f", name("i"))),
                                                        put("i", two("-", name("i"), name("n"))))],
                                                  ("oops", [log(name("i"))])), back(name("i"))),
                  [1], [2], [0], budgets=range(12))

    def test_a_test_that_is_always_so(self):
        code = self.same(main(loop(YES, log(num(1))), log(num(2)), back(num(3))))
        self.assertEqual(self.rows_of(code), [("tick", None), ("log", None), ("log", None)])

    def test_a_loop_as_the_first_row(self):
        self.same(main(loop(NO), back(num(1))))
        self.same(with_f(loop(YES, loop(YES, loop(NO)))), [1])


class Tries(Lowered):
    def logged(self, code):
        lines = [line for block in code.functions["main"].blocks for line in block.rows]
        return [line.operands for line in lines if line.op == "log"]

    def test_catches_to_which_nothing_leads(self):
        for rows in [[], [log(num(1))], [do(two("+", num(1), num(2)))], [fails("other")],
                     [trying([fails("oops")], ("oops", []))], [back(num(5)), fails("oops")],
                     [trying([], ("a", [fails("oops")]))], [choice(YES, [back(num(1))], [fails("b")]),
                                                            do(call("f", num(1)))]]:
            code = self.same(with_f(trying(rows, ("oops", [log(num(999))])), back(num(3))), [1])
            self.assertNotIn((num(999),), self.logged(code))

    def test_catches_to_which_something_leads(self):
        for rows in [[fails("oops")], [do(call("f", num(1)))], [choice(NO, [fails("oops")])], [loop(NO, fails("oops"))],
                     [trying([fails("a")], ("a", [fails("oops")]))], [trying([fails("oops")], ("a", []))],
                     [back(call("f", name("n")))], [trying([do(call("f", num(1)))], ("a", []))]]:
            code = self.same(with_f(trying(rows, ("oops", [log(num(999))])), back(num(3))), [1], [-1])
            self.assertEqual(self.logged(code).count((num(999),)), 1)

    def test_which_operation_leads_to_which_catch(self):
        some = {"mul": two("*", name("n"), num(2)), "div": two("/", num(2), name("n")), "mod": two("mod", num(1),
                                                                                                   name("n")),
                "pick": index(row(num(1)), name("n"))}
        for op, node in some.items():
            for fault in ["great", "zero", "range", "oops", "end"]:
                code = self.same(with_f(trying([log(node)], (fault, [log(num(999))])), back(num(3))), [0], [1],
                                 [10 ** 50 - 1])
                caught = [block.end.told()[5] for block in code.functions["main"].blocks if isinstance(block.end, Risk)]
                self.assertEqual([[name for name, edge in catches] for catches in caught],
                                 [[fault] if fault == FAULTS[op] else []])
        for fault in ["great", "zero", "range"]:
            code = self.same(with_f(let("r", row(num(1))), trying([setat("r", name("n"), num(4))], (fault,
                                                                                                    [log(num(1))])),
                                    log(index(name("r"), num(0)))), [0], [1])
            caught = [block.end.catches for block in code.functions["main"].blocks if isinstance(block.end, Risk)]
            self.assertEqual([len(catches) for catches in caught], [1 if fault == "range" else 0, 0])

    def test_tries_within_tries(self):
        inner = trying([do(call("f", name("n"))), do(two("/", num(1), name("n"))), fails("b")],
                       ("oops", [log(num(1)), fails("zero")]), ("b", [log(num(2)), do(two("*", name("n"), name("n")))]))
        program = with_f(trying([inner, log(num(3)), do(call("f", num(1)))],
                                ("zero", [log(num(4)), fails("b")]), ("oops", [log(num(5))]), ("great", [log(num(6))])),
                         log(num(7)))
        code = self.same(program, [1], [0], [-1], [10 ** 30])
        function = code.functions["main"]
        calls = [block.end for block in function.blocks if isinstance(block.end, Risk) and block.end.op == "call"]
        self.assertEqual([{fault: mark_at(function, edge) for fault, edge in end.catches} for end in calls],
                         [{"oops": 1, "b": 2, "zero": 4, "great": 6}, {"zero": 4, "oops": 5, "great": 6}])
        others = {block.end.op: block.end for block in function.blocks if isinstance(block.end, Risk)}
        self.assertEqual([(fault, mark_at(function, edge)) for fault, edge in others["div"].catches], [("zero", 4)])
        self.assertEqual([(fault, mark_at(function, edge)) for fault, edge in others["mul"].catches], [("great", 6)])
        self.assertEqual([end for end in self.ends(code) if end[0] == "raise"], [("raise", "b"), ("raise", "end")])

    def test_a_raise_that_is_caught_is_a_jump(self):
        code = self.same(main(trying([fails("a")], ("a", [back(num(1))]))))
        self.assertEqual(self.ends(code), [("jump",), ("back",)])
        code = self.same(main(trying([fails("b")], ("a", [back(num(1))]))))
        self.assertEqual(self.ends(code), [("raise", "b")])
        code = self.same(with_f(trying([choice(two("<", name("n"), num(0)), [fails("a")], [fails("b")])],
                                       ("a", [log(num(1)), fails("a")]), ("b", [log(num(2)), fails("c")]))), [1], [-1])
        self.assertEqual(sorted(end for end in self.ends(code) if end[0] == "raise"), [("raise", "a"), ("raise", "c")])

    def test_names_at_a_catch_are_as_they_were_at_the_fault(self):
        self.same(with_f(let("x", num(1)), let("y", NO),
                         trying([put("x", num(2)), do(call("f", name("n"))), put("x", num(3)), put("y", YES),
                                 do(two("/", num(6), name("n"))), put("x", call("f", two("-", name("n"), num(2)))),
                                 put("y", NO), fails("zero")],
                                ("oops", [log(name("x")), put("x", num(50))]), ("zero", [log(name("y"))])),
                         log(name("x")), log(name("y")), back(name("n"))), [-1], [0], [1], [2])

    def test_what_is_set_where_it_faults_is_not_set(self):
        self.same(with_f(let("x", num(1)), let("r", row(num(1))),
                         trying([put("x", two("/", num(1), name("n"))), setat("r", name("n"), num(5)), log(num(8))],
                                ("zero", []), ("range", [])), log(name("x")), log(index(name("r"), num(0)))), [0], [1])

    def test_a_try_in_a_loop_and_a_loop_in_a_try(self):
        self.same(with_f(let("s", num(0)), loop(two("<", num(0), name("n")),
                                                trying([put("n", two("-", name("n"), num(1))),
                                                        put("s", two("+", name("s"), two("/", num(12), name("n"))))],
                                                       ("zero", [put("s", two("+", name("s"), num(100)))]))),
                         back(name("s"))), [0], [1], [4], budgets=[0, 1, 2, 3, 4, 5, 6, 20])
        self.same(with_f(trying([loop(YES, put("n", two("-", name("n"), num(1))), do(call("f", name("n"))))],
                                ("oops", [back(name("n"))]))), [0], [1], [4], budgets=range(13))

    def test_catches_without_rows(self):
        self.same(with_f(trying([do(call("f", name("n"))), log(num(1))], ("oops", []), ("zero", [])), log(num(2))),
                  [1], [-1])

    def test_eight_catches(self):
        faults = ["a", "b", "c", "d", "oops", "f", "g", "zero"]
        code = self.same(with_f(trying([do(call("f", name("n")))], *[
            (fault, [log(num(100 + place)), fails(fault)]) for place, fault in enumerate(faults)])), [1], [-1])
        ends = [block.end for block in code.functions["main"].blocks if isinstance(block.end, Risk)]
        self.assertEqual([sorted(fault for fault, edge in end.catches) for end in ends], [sorted(faults)])


class LeftOut(Lowered):
    """Point 64: 999 is logged in rows that are not put."""

    GONE = log(num(999))

    def put_without(self, *rows):
        code = self.same(with_f(*rows), [1], [0], [-1])
        for function in code.functions.values():
            for block in function.blocks:
                for line in block.rows:
                    self.assertNotEqual(line.operands, (num(999),))
        return code

    def put_with(self, *rows):
        code = self.same(with_f(*rows), [1], [0], [-1])
        found = [line for block in code.functions["main"].blocks for line in block.rows if line.operands == (num(999),)]
        self.assertEqual(len(found), 1)

    def test_behind_a_return_and_a_raise(self):
        self.put_without(back(num(1)), self.GONE, do(call("f", num(1))))
        self.put_without(fails("a"), self.GONE, loop(YES))
        self.put_without(choice(YES, [back(num(1)), self.GONE]), log(num(1)))
        self.put_without(loop(YES, fails("a"), self.GONE), log(num(1)))
        self.put_without(trying([fails("a"), self.GONE], ("a", [back(num(1)), self.GONE])), self.GONE)

    def test_behind_a_choice(self):
        test = two("<", name("n"), num(0))
        self.put_without(choice(test, [back(num(1))], [fails("a")]), self.GONE)
        self.put_without(choice(YES, [choice(test, [fails("a")], [fails("b")]), self.GONE], [fails("a")]), self.GONE)
        self.put_with(choice(test, [back(num(1))], []), self.GONE)
        self.put_with(choice(test, [], [fails("a")]), self.GONE)
        self.put_with(choice(test, [], []), self.GONE)
        self.put_with(choice(YES, [back(num(1))], [log(num(1))]), self.GONE)

    def test_behind_a_loop(self):
        self.put_with(loop(YES, back(num(1))), self.GONE)
        self.put_with(loop(YES), self.GONE)

    def test_behind_a_try(self):
        self.put_without(trying([back(num(1))], ("a", [])), self.GONE)
        self.put_without(trying([fails("a")], ("a", [fails("b")]), ("b", [])), self.GONE)
        self.put_without(trying([fails("b")], ("a", [])), self.GONE)
        self.put_without(trying([back(call("f", num(1)))], ("oops", [back(num(1))]), ("b", [fails("c")])), self.GONE)
        self.put_with(trying([fails("a")], ("a", [])), self.GONE)
        self.put_with(trying([], ("a", [fails("b")])), self.GONE)
        self.put_with(trying([back(call("f", num(1)))], ("oops", [back(num(1))]), ("b", [])), self.GONE)
        self.put_with(trying([fails("b")], ("a", []), ("b", [log(num(1))])), self.GONE)
        self.put_without(trying([trying([fails("a")], ("a", [back(num(1))])), self.GONE], ("b", [self.GONE])),
                         self.GONE)

    def test_calls_in_rows_that_are_not_put_lead_nowhere(self):
        self.put_without(trying([back(num(1)), do(call("f", num(1)))], ("oops", [self.GONE])), self.GONE)
        self.put_without(trying([trying([log(num(1))], ("a", [do(call("f", num(1))), fails("b")]))],
                                ("oops", [self.GONE]), ("b", [self.GONE])))

    def test_the_test_of_a_choice_is_put_ahead_of_it(self):
        self.put_with(choice(two("=", num(0), call("f", name("n"))), [back(num(1))]), self.GONE)


class Forms(Lowered):
    def test_what_was_handed_in_stays_and_what_was_told_is_new(self):
        tree = typed(with_f(log(name("n")), back(num(1))))
        code = lowered(tree)
        told = shown(code.told())
        tree.functions.clear()
        self.assertEqual(shown(code.told()), told)
        again = lowered(tree)
        self.assertEqual(shown(again.told()), told)
        code.functions.clear()
        again.functions["main"].kinds.clear()
        self.assertEqual(shown(again.told()), told)
        self.assertEqual(shown(lowered(tree).told()), told)

    def test_of_a_typed_tree_made_by_hand(self):
        tree = Typed({"main": ((("a", NUM),), NUM, (("return", ("op", "neg", None, (("local", "a", NUM),), NUM)),))})
        self.assertEqual(run_blocks(lowered(tree), [4], 0).seen(), ("answer", ("num", -4), (), 0))

    def test_names_are_given_once(self):
        code = self.same(with_f(let("x", num(1)), loop(two("<", name("x"), name("n")), put("x", two("+", name("x"),
                                                                                                    num(1))),
                                                       choice(YES, [put("x", call("f", name("x")))])), back(name("x"))),
                         [0], [4])
        for function in code.functions.values():
            given = [text for block in function.blocks for text in block.given()]
            self.assertEqual(len(given), len(set(given)))
            self.assertEqual(sorted(given), sorted(function.kinds))


class Great(Lowered):
    """Programs near the bounds: their codes keep the bounds too."""

    T = fun("t", [], TRUTH, back(YES))

    def great(self, *rows, takes=()):
        program = ((), (self.T, fun("main", takes, NUM, *rows)))
        self.assertGreater(len(nodes(program)), 2200)
        return self.same(program, budgets=[0, 40])

    def letters(self, number):
        return "".join("abcdefghij"[int(figure)] for figure in str(1000 + number))

    def within(self, depth, *rows):
        for level in range(depth):
            rows = [loop(call("t"), *rows)]
        return rows

    def test_loops_and_choices_that_call(self):
        self.great(*[loop(call("t")) for count in range(1490)])
        self.great(*[choice(call("t"), [], []) for count in range(1490)])
        self.great(*[line for count in range(55) for line in self.within(26, loop(call("t")))])

    def test_many_names(self):
        names = [self.letters(number) for number in range(400)]
        lets = [let(text, num(1)) for text in names]
        self.great(*lets, *self.within(26, *[put(text, num(2)) for text in names]),
                   *[log(name(text)) for text in names])
        self.great(*lets, *[choice(call("t"), [put(text, num(2))]) for text in names[:350]], log(name(names[3])))

    def test_many_catches(self):
        rows = [do(call("t")) for count in range(1100)]
        for level in range(24):
            rows = [trying(rows, *[(self.letters(level * 8 + place), []) for place in range(8)])]
        self.great(*rows)


class ByChance(Lowered):
    def test_as_the_tree(self):
        came = {}
        for seed in range(1500):
            sower = Sower(seed, size=30 + seed % 90)
            program = sower.program()
            tree = typed(program)
            code = lowered(tree)
            self.as_wanted(tree, code, seed)
            takes = next(head[1] for head in sower.heads if head[0] == "main")
            for count in range(2):
                inputs = [sower.value(kind) for text, kind in takes]
                for budget in BUDGETS:
                    run, ran = run_source(tree, inputs, budget), run_blocks(code, inputs, budget)
                    self.assertEqual(shown(ran.seen()), shown(run.seen()), (seed, inputs, budget))
                    self.assertLessEqual(ran.steps, code.width() * (ran.took + 1))
                    came[run.ending] = came.get(run.ending, 0) + 1
        self.assertGreater(min(came[ending] for ending in ["answer", "fault", "dry"]), 2000, came)

    def test_where_catches_and_raises_lead(self):
        marks = 0
        for seed in range(1500):
            program = Sower(seed, size=90).program()
            marker = Marker()
            tree = Typed({text: marker.function(function) for text, function in typed(program).functions.items()})
            self.as_wanted(tree, lowered(tree), seed, marked=True)
            marks += marker.last - 7000
        self.assertGreater(marks, 1000)


if __name__ == "__main__":
    unittest.main()
