"""Points 2 to 4, 6 and 134 to 136: what it is that a table of places holds, and that whatever holds does the same."""

import copy
import re
import unittest
from random import Random

from eachstepsame.allot import allotted
from eachstepsame.blockrun import run_blocks
from eachstepsame.blocks import Back, Block, Branch, Code, Function, Jump, Raise, Risk, Row
from eachstepsame.fits import need_fit
from eachstepsame.machinerun import run_machine
from eachstepsame.machines import Machine
from eachstepsame.table import holds
from tests.helper import (
    FLAG, NUM, TICK, TRUTH, YES, Drawer, MachineOracle, Sower, add, is_plain, made, n, neg, noted, num, otherwise,
    put_end, refusal, sample_code, shown, single, sown_code, things, told_edges,
)

R0, R1, R2, R3 = [("reg", number) for number in range(4)]
F0, F1, F2, F3 = [("frame", number) for number in range(4)]
MAIN, CALLED = "main", "f"


def small():
    """A loop into which a result is handed, a risk with a catch, a call with a catch, logs, a branch."""
    main = made(
        [NUM, TRUTH], NUM,
        Block([0, 1], [add(2, n(0), num(1)), noted(n(2))], Branch(n(1), (1, (n(2),)), (3, ()))),
        Block([3], [TICK, Row(4, "less", None, [n(3), num(10)])], Branch(n(4), (2, ()), (5, (n(3),)))),
        Block([], [add(5, n(3), n(2))], Risk("div", None, [n(5), n(2)], (1, ()), [("zero", (5, (num(0),)))])),
        Block([], [], Risk("call", "f", [n(2)], (4, (n(0),)), [("oops", (5, (n(2),))), ("end", (6, ()))])),
        Block([6, 7], [Row(8, "sub", None, [n(6), n(7)])], Jump((5, (n(8),)))),
        Block([9], [], Back(n(9))),
        Block([], [], Raise("odd")), n1=TRUTH, n4=TRUTH)
    called = made([NUM], NUM, Block([0], [Row(1, "less", None, [n(0), num(3)])], Branch(n(1), (1, ()), (2, ()))),
                  Block([], [], Raise("oops")), Block([], [], Back(num(40))), n1=TRUTH)
    return Code({"main": main, "f": called})


def small_machine():
    """What a hand made of it, with two registers and three places of the frame."""
    main = (2, 3, (
        ((("op", F2, "add", None, (F0, ("num", 1))), ("log", F2)), ("branch", F1, 7, 3)),
        ((("tick",), ("op", R1, "less", None, (R0, ("num", 10)))), ("branch", R1, 2, 8)),
        ((("op", R0, "add", None, (R0, F2)),), ("risk", "div", None, (R0, F2), R0, 1, (("zero", 9),))),
        ((), ("risk", "call", "f", (F2,), R0, 10, (("oops", 11), ("end", 6)))),
        ((("op", R1, "sub", None, (R0, R1)),), ("jump", 5)),
        ((), ("back", R1)),
        ((), ("raise", "odd")),
        ((("move", R0, F2),), ("jump", 1)),
        ((("move", R1, R0),), ("jump", 5)),
        ((("move", R1, ("num", 0)),), ("jump", 5)),
        ((("move", R1, F0),), ("jump", 4)),
        ((("move", R1, F2),), ("jump", 5)),
    ))
    called = (1, 1, (
        ((("op", R0, "less", None, (F0, ("num", 3))),), ("branch", R0, 1, 2)),
        ((), ("raise", "oops")),
        ((), ("back", ("num", 40))),
    ))
    return {"main": main, "f": called}


def small_table():
    return {"main": [{F0: 0, F1: 1}, {R0: 3, F2: 2}, {R0: 3, F2: 2}, {F0: 0, F2: 2}, {R0: 6, R1: 7}, {R1: 9}, {}],
            "f": [{F0: 0}, {}, {}]}


SMALL_INPUTS = [[given, test] for given in [-1, 0, 1, 2, 9, -7] for test in [True, False]]


def at(thing, path, put):
    """The thing with what lies at the end of the path put as the function tells; dicts and lists are new."""
    if not path:
        return put(thing)
    part = at(thing[path[0]], path[1:], put)
    if isinstance(thing, dict):
        return {**thing, path[0]: part}
    made = list(thing)
    made[path[0]] = part
    return tuple(made) if isinstance(thing, tuple) else made


def lies_at(thing, path):
    return lies_at(thing[path[0]], path[1:]) if path else thing


class Amiss(Exception):
    pass


def need(truth):
    if not truth:
        raise Amiss


def reading(code, machine, table, k):
    """Whether a table holds, by a second reading: all is compared as text, so that 1 and True are apart."""
    try:
        need(shown(k) in "2 3 4 5 6 7 8".split() and refusal(need_fit, code) is None)
        need(table.__class__ is dict and set(table) == set(code.functions) == set(machine.functions))
        for text, told in code.told():
            Reading(told, machine.functions[text], table[text], k)
    except Amiss:
        return False
    return True


class Reading:
    """What is held is a dict from the texts of places to the texts of operands."""

    def __init__(self, told, made, claims, k):
        takes, gives, kinds, self.code = told
        need(made.__class__ is tuple and len(made) == 3 and shown(made[0]) == shown(len(takes)))
        self.k, (count, self.frame, self.blocks) = k, made
        need(self.is_number(self.frame) and self.frame >= count and self.blocks.__class__ is tuple)
        need(len(self.blocks) >= len(self.code))
        for block in self.blocks:
            need(block.__class__ is tuple and len(block) == 2)
            need([part.__class__ for part in block] == [tuple, tuple] and len(block[1]) > 0)
            need(all(row.__class__ is tuple and row for row in block[0]))
        need(claims.__class__ is list and len(claims) == len(self.code))
        need(all(claim.__class__ is dict for claim in claims))
        self.claims = [{self.place(place): shown(name) for place, name in claim.items()} for claim in claims]
        need(all(self.is_number(name) for claim in claims for name in claim.values()))
        params = {(shown(("frame", place)), shown(name)) for place, name in enumerate(self.code[0][0])}
        need(set(self.claims[0].items()) <= params)
        for rows, end in self.blocks[len(self.code):]:
            need(len(end) == 2 and end[0] == "jump" and end[1].__class__ is int)
            for row in rows:
                need(row[0] == "move" and len(row) == 3 and self.place(row[1]))
                need(self.constant(row[2]) or self.place(row[2]))
        for number in range(len(self.code)):
            self.go_down(number)

    def is_number(self, thing):
        return re.fullmatch(r"[0-9]+", shown(thing)) is not None

    def place(self, thing):
        found = re.fullmatch(r"\('(reg|frame)', ([0-9]+)\)", shown(thing))
        need(found and int(found[2]) < (self.k if found[1] == "reg" else self.frame))
        return shown(thing)

    def constant(self, thing):
        text = shown(thing)
        return re.fullmatch(r"\('num', -?[0-9]+\)|\('truth', (True|False)\)", text) and text

    def held(self, source, state):
        found = self.constant(source) or state.get(self.place(source))
        need(found)
        return found

    def move(self, row, state):
        need(len(row) == 3)
        state[self.place(row[1])] = self.held(row[2], state)

    def hold(self, sources, operands, state):
        need(sources.__class__ is tuple and len(sources) == len(operands))
        need([self.held(source, state) for source in sources] == [shown(operand) for operand in operands])

    def go_down(self, number):
        (rows, made), (params, wanted, end) = self.blocks[number], self.code[number]
        state, wanted = {place: f"('name', {name})" for place, name in self.claims[number].items()}, list(wanted)
        for row in rows:
            if row[0] == "move":
                self.move(row, state)
                continue
            need(wanted)
            name, op, extra, operands = wanted.pop(0)
            if name is None:
                need(row[0] == op)
                self.hold(row[1:], operands, state)
                continue
            need(row[0] == "op" and len(row) == 5 and shown(row[2:4]) == shown((op, extra)))
            self.hold(row[4], operands, state)
            for place in [place for place, operand in state.items() if operand == shown(n(name))]:
                del state[place]
            state[self.place(row[1])] = shown(n(name))
        need(not wanted and made[0] == end[0])
        self.go_out(made, end, state)

    def go_out(self, made, end, state):
        need(len(made) == {"jump": 2, "branch": 4, "back": 2, "raise": 2, "risk": 7}[end[0]])
        if end[0] == "raise":
            need(shown(made) == shown(end))
        if end[0] in ("back", "branch"):
            self.hold(made[1:2], end[1:2], state)
        if end[0] == "jump":
            self.along(made[1], end[1], state)
        if end[0] == "branch":
            self.along(made[2], end[2], state)
            self.along(made[3], end[3], state)
        if end[0] == "risk":
            need(shown(made[1:3]) == shown(end[1:3]))
            self.hold(made[3], end[3], state)
            if end[1] == "call":
                state = {place: operand for place, operand in state.items() if "frame" in place}
            self.along(made[5], end[4], {**state, self.place(made[4]): "result"}, ["result"])
            need(made[6].__class__ is tuple and len(made[6]) == len(end[5]))
            for catch, (fault, edge) in zip(made[6], end[5]):
                need(catch.__class__ is tuple and len(catch) == 2 and shown(catch[0]) == shown(fault))
                self.along(catch[1], edge, state)

    def along(self, number, edge, state, results=()):
        need(self.is_number(number) and number < len(self.blocks))
        state = dict(state)
        if number >= len(self.code):
            rows, jump = self.blocks[number]
            for row in rows:
                self.move(row, state)
            number = jump[1]
        need(number == edge[0])
        params = [shown(name) for name in self.code[number][0]]
        handed = dict(zip(params, list(results) + [shown(arg) for arg in edge[1]]))
        for place, name in self.claims[number].items():
            need(state.get(place) == handed.get(name, f"('name', {name})"))


class Looked(unittest.TestCase):
    def looked(self, code, functions, table, k=3):
        """What is told; it is no other than by the second reading, and nothing is changed."""
        kept = copy.deepcopy((functions, table, k))
        machine, told = Machine(functions), shown(code.told())
        found = holds(code, machine, table, k)
        self.assertIs(found.__class__, bool)
        self.assertEqual(shown((functions, table, k)), shown(kept))
        self.assertEqual(shown(code.told()), told)
        self.assertIs(holds(code, machine, table, k), found)
        self.assertIs(reading(code, machine, table, k), found, (functions, table, k))
        return found

    def runs_alike(self, code, functions, inputs, budgets=(0, 1, 2, 3, 8, 40)):
        machine = Machine(functions)
        for budget in budgets:
            run, oracle = run_blocks(code, inputs, budget), MachineOracle(machine, budget)
            # The second runner has no place that was not written.
            self.assertEqual(shown(oracle.run(inputs)), shown(run.seen()), (inputs, budget))
            ran = run_machine(machine, inputs, budget)
            self.assertEqual(shown(ran.seen()), shown(run.seen()), (inputs, budget))
            self.assertEqual(ran.steps, oracle.steps)
            self.assertLessEqual(ran.steps, machine.width() * (ran.took + 1))

    def good(self, functions=None, table=None, k=3, code=None, inputs=SMALL_INPUTS):
        code = code or small()
        functions = functions or small_machine()
        self.assertIs(self.looked(code, functions, table or small_table(), k), True)
        for given in inputs:
            self.runs_alike(code, functions, given)

    def bad(self, functions=None, table=None, k=3, code=None):
        functions = small_machine() if functions is None else functions
        table = small_table() if table is None else table
        self.assertIs(self.looked(code or small(), functions, table, k), False)

    def with_machine(self, *changes):
        """The small machine with some changes, each a path in main and what is there then."""
        found = small_machine()
        for path, thing in changes:
            found = at(found, (MAIN,) + path, lambda old: thing)
        return found

    def with_block(self, *more):
        """The small machine with more blocks behind."""
        return at(small_machine(), (MAIN, 2), lambda blocks: blocks + more)

    def with_rows(self, number, rows, functions=None):
        return at(functions or small_machine(), (MAIN, 2, number, 0), lambda old: tuple(rows))

    def with_claims(self, *changes):
        """The small table with more claims of main: tuples of a block, a place and a name."""
        found = small_table()
        for number, place, name in changes:
            found[MAIN][number][place] = name
        return found


class ByHand(Looked):
    def test_the_small_one(self):
        for k in range(2, 9):
            self.good(k=k)

    def test_told_ones(self):
        for code in [small(), sample_code()]:
            for k in range(2, 9):
                machine, table = allotted(code, k)
                self.assertTrue(self.looked(code, machine.functions, table, k))
                for given in SMALL_INPUTS:
                    self.runs_alike(code, machine.functions, given)

    def test_no_number_of_registers(self):
        for thing in things() + list(range(-1, 12)):
            wanted = thing.__class__ is int and 2 <= thing <= 8
            self.assertIs(self.looked(small(), small_machine(), small_table(), thing), wanted, thing)

    def test_no_table(self):
        for thing in things():
            self.assertFalse(self.looked(small(), small_machine(), thing))
            self.bad(table={**small_table(), MAIN: thing})
            for number in [0, 6]:
                # Of block 0 something is needed, of block 6 nothing.
                table = at(small_table(), (MAIN, number), lambda old: thing)
                (self.good if number == 6 and thing == {} and thing.__class__ is dict else self.bad)(table=table)

    def test_no_machine(self):
        for thing in things():
            if isinstance(thing, dict):
                self.bad(functions=thing)
            self.bad(functions={**small_machine(), MAIN: thing})
            self.bad(functions={**small_machine(), CALLED: thing})
            for place in range(3):
                functions = at(small_machine(), (MAIN, place), lambda old: thing)
                good = (place == 0 and shown(thing) == "2") or (place == 1 and thing.__class__ is int and thing > 2)
                self.assertIs(self.looked(small(), functions, small_table()), good, thing)

    def test_functions_of_other_names(self):
        functions, table = small_machine(), small_table()
        for more in ["more", "", 1, None, ("main",)]:
            self.bad(functions={**functions, more: functions[CALLED]})
            self.bad(table={**table, more: table[CALLED]})
            self.bad(functions={**functions, more: functions[CALLED]}, table={**table, more: table[CALLED]})
            self.bad(functions={MAIN: functions[MAIN], more: functions[CALLED]})
            self.bad(table={MAIN: table[MAIN], more: table[CALLED]})
        for text in [MAIN, CALLED]:
            self.bad(functions={text: functions[text]})
            self.bad(table={text: table[text]})
            self.bad(functions={text: functions[text]}, table={text: table[text]})
        self.bad(functions={MAIN: functions[CALLED], CALLED: functions[MAIN]})
        self.good(functions={CALLED: functions[CALLED], MAIN: functions[MAIN]})
        self.good(table={CALLED: table[CALLED], MAIN: table[MAIN]})

    def test_codes_that_are_not_well_made(self):
        code = small()
        main = code.functions[MAIN]
        self.bad(code=Code({}))
        self.bad(code=Code({}), functions={}, table={})
        self.bad(code=Code({CALLED: code.functions[CALLED]}), functions={CALLED: small_machine()[CALLED]},
                 table={CALLED: small_table()[CALLED]})
        self.bad(code=code.with_function(MAIN, Function(main.takes, TRUTH, main.kinds, main.blocks)))
        self.bad(code=code.with_function(MAIN, Function(main.takes, NUM, {**main.kinds, 77: NUM}, main.blocks)))
        self.bad(code=code.with_function(MAIN, Function(main.takes, NUM, {}, [])))

    def test_codes_that_do_otherwise(self):
        code, blocks = small(), small().functions[MAIN].blocks
        for number, block in [
            (0, Block([0, 1], [add(2, n(0), num(2)), noted(n(2))], blocks[0].end)),
            (0, Block([0, 1], [Row(2, "sub", None, [n(0), num(1)]), noted(n(2))], blocks[0].end)),
            (0, Block([0, 1], [add(2, n(0), num(1)), noted(n(1))], blocks[0].end)),
            (0, Block([0, 1], [add(2, n(0), num(1))], blocks[0].end)),
            (0, Block([0, 1], [add(2, num(1), n(0)), noted(n(2))], blocks[0].end)),
            (0, Block([0, 1], [add(2, n(0), num(1)), noted(n(2)), TICK], blocks[0].end)),
            (0, Block([0, 1], blocks[0].rows, Branch(n(1), (1, (n(0),)), (3, ())))),
            (2, Block([], blocks[2].rows, Risk("mod", None, [n(5), n(2)], (1, ()), [("zero", (5, (num(0),)))]))),
            (2, Block([], blocks[2].rows, Risk("div", None, [n(5), n(2)], (1, ()), [("range", (5, (num(0),)))]))),
            (2, Block([], blocks[2].rows, Risk("div", None, [n(5), n(2)], (1, ()), [("zero", (5, (num(1),)))]))),
            (2, Block([], blocks[2].rows, Risk("div", None, [n(2), n(5)], (1, ()), [("zero", (5, (num(0),)))]))),
            (2, Block([], blocks[2].rows, Risk("div", None, [n(5), n(2)], (1, ()), []))),
            (3, Block([], [], Risk("call", "f", [n(0)], (4, (n(0),)), blocks[3].end.catches))),
            (3, Block([], [], Risk("call", "f", [n(2)], (4, (n(2),)), blocks[3].end.catches))),
            (3, Block([], [], Risk("call", "f", [n(2)], (4, (n(0),)), blocks[3].end.catches[::-1]))),
            (5, Block([9], [], Back(num(3)))),
            (6, Block([], [], Raise("oops"))),
            (6, Block([], [], Back(num(1)))),
        ]:
            other = list(blocks)
            other[number] = block
            code = small().with_function(MAIN, made([NUM, TRUTH], NUM, *other, n1=TRUTH, n4=TRUTH))
            need_fit(code)
            self.bad(code=code)


class Claims(Looked):
    def test_each_left_out(self):
        for text, claims in small_table().items():
            for number, claim in enumerate(claims):
                for place in claim:
                    table = small_table()
                    del table[text][number][place]
                    self.bad(table=table)

    def test_each_for_another_name(self):
        for text, claims in small_table().items():
            for number, claim in enumerate(claims):
                for place, name in claim.items():
                    for other in [*range(-1, 11), 10 ** 6, True, False, None, "0", (0,), [0], n(name), {}]:
                        if shown(other) != shown(name):
                            self.bad(table=at(small_table(), (text, number, place), lambda old: other))

    def test_each_at_another_place(self):
        for text, claims in small_table().items():
            for number, claim in enumerate(claims):
                for place, name in claim.items():
                    for other in [R0, R1, R2, R3, F0, F1, F2, F3, ("reg", -1), ("frame", -1), ("reg", True), ("reg",),
                                  ("reg", 0, 0), ("num", 0), ("frame", "0"), "reg", 0, None, (0, "reg"), ("reg", None),
                                  ("reg", (0,)), ("Reg", 0), ("", 0)]:
                        if other not in claim:
                            table = small_table()
                            del table[text][number][place]
                            table[text][number][other] = name
                            self.bad(table=table)

    def test_more_that_hold(self):
        # 0 stays in its place through the loop.
        self.good(table=self.with_claims((1, F0, 0), (2, F0, 0)))
        self.good(table=self.with_claims((1, F0, 0), (2, F0, 0), (1, F1, 1), (2, F1, 1)))
        self.bad(table=self.with_claims((1, F0, 0)))
        self.bad(table=self.with_claims((2, F0, 0)))
        # Behind the call and the loop alike.
        self.good(table=self.with_claims((5, F2, 2), (4, F2, 2)))
        self.bad(table=self.with_claims((5, F2, 2)))
        self.good(table=self.with_claims((3, F1, 1), (6, F0, 0), (6, F1, 1), (6, F2, 2)))
        self.bad(table=self.with_claims((6, F1, 1)))
        # What is handed to 7 lies there as well.
        self.good(table=self.with_claims((4, F0, 7)))

    def test_more_that_do_not_hold(self):
        for number, place, name in [
            (0, F2, 0), (0, R0, 0), (0, F2, 2), (1, R1, 3), (1, R1, 4), (2, R1, 5), (3, R0, 3), (4, F0, 6), (4, F1, 4),
            (5, R0, 9), (6, R0, 0), (6, R1, 9), (6, F0, 1), (4, F2, 6), (1, F0, 3), (1, F1, 77), (6, F3, 0),
        ]:
            self.bad(table=self.with_claims((number, place, name)))

    def test_what_stands_in_a_register_is_lost_over_a_call(self):
        rows = small_machine()[MAIN][2][0][0] + (("move", R1, F0),)
        moved = self.with_rows(0, rows)
        self.good(functions=moved, table=self.with_claims((3, R1, 0)))
        self.bad(functions=moved, table=self.with_claims((3, R1, 0), (6, R1, 0)))
        self.good(functions=moved, table=self.with_claims((3, R1, 0), (6, F0, 0)))
        # What is to be moved behind the call is read from a register.
        for number, source in [(10, R1), (11, R1)]:
            functions = at(moved, (MAIN, 2, number, 0), lambda old: (("move", R1, source),))
            self.bad(functions=functions, table=self.with_claims((3, R1, 0)))
        # Over another risk it is not lost.
        divided = at(small_machine(), (MAIN, 2, 1, 0), lambda rows: rows + (("move", R1, F0),))
        divided = at(divided, (MAIN, 2, 1, 1), lambda old: ("branch", R2, 2, 8))
        divided = at(divided, (MAIN, 2, 1, 0, 1, 1), lambda old: R2)
        self.bad(functions=divided, table=self.with_claims((2, R1, 0)))
        self.good(functions=divided, table=self.with_claims((1, F0, 0), (2, R1, 0), (2, F0, 0)))

    def test_a_result_stands_at_the_ends_place_alone(self):
        for place in [R1, F0, F1, F2]:
            self.bad(functions=self.with_machine(((2, 2, 1, 4), place)))
        functions = self.with_machine(((2, 2, 1, 4), R1), ((2, 2, 1, 5), 12))
        functions = at(functions, (MAIN, 2), lambda blocks: blocks + (((("move", R0, R1),), ("jump", 1)),))
        self.good(functions=functions)
        # Where the operation faults nothing is put there.
        functions = self.with_machine(((2, 9, 0, 0), ("move", R1, R0)))
        self.bad(functions=functions)

    def test_a_name_at_two_places(self):
        twice = self.with_rows(0, small_machine()[MAIN][2][0][0] + (("move", R1, F0), ("move", R0, F1)))
        self.good(functions=twice, table=self.with_claims((3, R1, 0), (3, R0, 1)))
        self.bad(functions=twice, table=self.with_claims((3, R1, 1), (3, R0, 0)))
        self.good(functions=at(twice, (MAIN, 2, 3, 1, 3), lambda old: (F2,)), table=self.with_claims((3, R1, 0)))
        self.bad(functions=at(twice, (MAIN, 2, 3, 1, 3), lambda old: (R1,)), table=self.with_claims((3, R1, 0)))

    def test_params_of_block_0(self):
        code = single([], Back(n(1)), [NUM, NUM])
        functions = {MAIN: (2, 3, (((), ("back", F1)),))}
        for claim in [{F1: 1}, {F0: 0, F1: 1}, {F1: 1, F0: 0}]:
            self.good(code=code, functions=functions, table={MAIN: [claim]}, inputs=[[1, 2]])
        for claim in [{}, {F0: 0}, {F0: 1}, {F1: 0}, {F0: 1, F1: 1}, {F1: 1, F2: 1}, {F1: 1, R0: 1}, {F1: 1, F2: 2}]:
            self.bad(code=code, functions=functions, table={MAIN: [claim]})
        self.bad(code=code, functions={MAIN: (2, 3, (((), ("back", F0)),))}, table={MAIN: [{F0: 0, F1: 1}]})

    def test_as_many_dicts_as_blocks(self):
        table = small_table()
        self.bad(table={**table, MAIN: table[MAIN][:-1]})
        self.bad(table={**table, MAIN: table[MAIN] + [{}]})
        self.bad(table={**table, MAIN: tuple(table[MAIN])})
        self.bad(table={**table, MAIN: dict(enumerate(table[MAIN]))})
        self.bad(table={**table, MAIN: [list(claim.items()) for claim in table[MAIN]]})
        self.bad(table={**table, MAIN: []})
        # The dicts of further blocks are not asked for.
        self.bad(table={**table, MAIN: table[MAIN] + [{} for block in range(5)]})

    def test_a_param_is_what_the_edge_hands_on(self):
        # In each round the param has what the other one had; a place that keeps what the one had is none of it.
        head = Block([1, 2], [TICK, noted(n(1))], Branch(YES, (1, (n(2), n(1))), (2, ())))
        code = Code({MAIN: made([NUM], NUM, Block([0], [], Jump((1, (n(0), num(5))))), head,
                                Block([], [], Back(n(2))))})
        ring = (("move", R2, R0), ("move", R0, R1), ("move", R1, R2))
        blocks = [((), ("jump", 3)), ((("tick",), ("log", R0)), ("branch", YES, 4, 2)), ((), ("back", R1)),
                  ((("move", R0, F0), ("move", R1, ("num", 5))), ("jump", 1)), (ring, ("jump", 1))]
        table = {MAIN: [{F0: 0}, {R0: 1, R1: 2}, {R1: 2}]}
        self.good(code=code, functions={MAIN: (1, 1, blocks)}, table=table, inputs=[[7]])
        for rows in [(), ring[:2], ring[1:], ring[::-1], (("move", R0, R1),), (("move", R1, R0), ("move", R0, R1)),
                     ring + ring]:
            functions = {MAIN: (1, 1, blocks[:4] + [(rows, ("jump", 1))])}
            self.bad(code=code, functions=functions, table=table)
        # A constant that is handed on is held by a place to which it was moved, and by no other one.
        for source in [("num", 6), ("truth", True), F0, R0]:
            functions = {MAIN: (1, 1, at(blocks, (3, 0, 1, 2), lambda old: source))}
            self.bad(code=code, functions=functions, table=table)


class Rows(Looked):
    def test_left_out_and_twice(self):
        for number, (rows, end) in enumerate(small_machine()[MAIN][2]):
            for place, row in enumerate(rows):
                self.bad(functions=self.with_rows(number, rows[:place] + rows[place + 1:]))
                twice = self.with_rows(number, rows[:place] + (row,) + rows[place:])
                self.good(functions=twice) if row[0] == "move" else self.bad(functions=twice)

    def test_exchanged(self):
        for number in [0, 1]:
            self.bad(functions=self.with_rows(number, small_machine()[MAIN][2][number][0][::-1]))
        code = single([noted(n(0)), noted(n(1)), TICK, noted(n(0))], Back(n(0)), [NUM, NUM])
        rows = [("log", F0), ("log", F1), ("tick",), ("log", F0)]
        self.good(code=code, functions={MAIN: (2, 2, ((rows, ("back", F0)),))}, table={MAIN: [{F0: 0, F1: 1}]},
                  inputs=[[1, 2]])
        for one in range(3):
            other = rows[:one] + [rows[one + 1], rows[one]] + rows[one + 2:]
            self.bad(code=code, functions={MAIN: (2, 2, ((other, ("back", F0)),))}, table={MAIN: [{F0: 0, F1: 1}]})

    def test_each_thing_in_a_row_put_otherwise(self):
        others = [R0, R1, R2, R3, F0, F1, F2, F3, ("num", 0), ("num", 1), ("num", True), ("truth", True), YES, 0, 1,
                  True, False, None, "add", "sub", "op", "move", "log", "tick", "copy", "call", "", (), (R0,), (F0, F0),
                  {}, ("name", 0), n(2), ("frame", True), ("reg", False), ("reg", -1), ("reg", 1, 1), ("row", 1)]
        tried, kept = 0, 0
        for number, (rows, end) in enumerate(small_machine()[MAIN][2]):
            for place, row in enumerate(rows):
                for part in range(len(row)):
                    for other in others:
                        functions = self.with_machine(((2, number, 0, place, part), other))
                        tried += 1
                        if self.looked(small(), functions, small_table()):
                            kept += 1
                            for given in SMALL_INPUTS[:6]:
                                self.runs_alike(small(), functions, given)
                for part in row:
                    for inner in range(len(part) if isinstance(part, tuple) else 0):
                        path = (2, number, 0, place, row.index(part), inner)
                        for other in others:
                            self.looked(small(), self.with_machine((path, other)), small_table())
        self.assertGreater(tried, 1000)
        self.assertGreater(kept, 30)

    def test_longer_and_shorter_rows(self):
        for number, (rows, end) in enumerate(small_machine()[MAIN][2]):
            for place, row in enumerate(rows):
                for other in [row[:-1], row + (None,), row + (R0,), row[1:], (), row + row, [list(row)], "tick", None]:
                    self.bad(functions=self.with_rows(number, rows[:place] + (other,) + rows[place + 1:]))

    def test_moves_between_the_rows_anywhere(self):
        for number, (rows, end) in enumerate(small_machine()[MAIN][2][:7]):
            for place in range(len(rows) + 1):
                more = (("move", R2, ("num", 3)), ("move", R2, ("truth", True)), ("move", F3, R2), ("move", R2, F3))
                functions = self.with_rows(number, rows[:place] + more + rows[place:])
                self.good(functions=at(functions, (MAIN, 1), lambda old: 4))
                self.bad(functions=functions)

    def test_a_source_that_holds_nothing_can_not_be_moved(self):
        for number in range(7):
            for source in [R2, R3, F3]:
                rows = small_machine()[MAIN][2][number][0] + (("move", R2, source),)
                self.bad(functions=at(self.with_rows(number, rows), (MAIN, 1), lambda old: 4), k=4)
        for number in range(7, 12):
            for source in [R2, R3, F3]:
                rows = (("move", R2, source),) + small_machine()[MAIN][2][number][0]
                self.bad(functions=at(self.with_rows(number, rows), (MAIN, 1), lambda old: 4), k=4)

    def test_moved_back_and_forth(self):
        rows = (("move", R1, F0), ("move", F0, ("num", 9)), ("op", F2, "add", None, (R1, ("num", 1))), ("log", F2),
                ("move", F0, R1), ("move", R1, F2), ("move", R0, R1))
        self.good(functions=self.with_rows(0, rows))
        for place in range(len(rows)):
            functions = self.with_rows(0, rows[:place] + rows[place + 1:])
            # Without these what is read, and what the table claims, is there all the same.
            wanted = place in (1, 5, 6)
            self.assertIs(self.looked(small(), functions, small_table()), wanted, place)

    def test_a_constant_at_a_place(self):
        rows = (("move", R0, ("num", 1)), ("op", F2, "add", None, (F0, R0)), ("log", F2))
        self.good(functions=self.with_rows(0, rows))
        for constant in [("num", 2), ("truth", True), ("num", True), ("num", -1)]:
            self.bad(functions=self.with_rows(0, (("move", R0, constant),) + rows[1:]))
        self.bad(functions=self.with_rows(0, rows[1:]))

    def test_extras(self):
        wide = ("row", 1)
        rows = [Row(1, "make", wide, [n(0)]), Row(2, "put", 0, [n(1), num(1)]), Row(3, "get", 0, [n(2)]),
                Row(4, "make", FLAG, [YES, n(3)]), Row(5, "get", 1, [n(4)]), Row(6, "put", 1, [n(4), n(5)]),
                Row(7, "get", 1, [n(6)])]
        code = single(rows, Back(n(7)), [NUM], n1=wide, n2=wide, n4=FLAG, n6=FLAG)
        need_fit(code)
        ops = [("op", R0, "make", wide, (F0,)), ("op", R0, "put", 0, (R0, num(1))), ("op", R0, "get", 0, (R0,)),
               ("op", R0, "make", FLAG, (YES, R0)), ("op", R1, "get", 1, (R0,)), ("op", R0, "put", 1, (R0, R1)),
               ("op", R0, "get", 1, (R0,))]
        table = {MAIN: [{F0: 0}]}
        self.good(code=code, functions={MAIN: (1, 1, ((ops, ("back", R0)),))}, table=table, inputs=[[5]])
        for place, extras in enumerate([
            [("row", True), ("row", 2), ["row", 2], None, wide + wide, ("num",)], [False, 1, None, "0", (0,)],
            [False, 1, None, -1], [FLAG[:1], ("record", ()), (FLAG,), ("record", (NUM, TRUTH)), True],
            [True, 0, None, (1,)], [True, 0, 2, [1]], [True, 0, None, "1"],
        ]):
            for extra in extras:
                other = at(ops, (place, 3), lambda old: extra)
                self.bad(code=code, functions={MAIN: (1, 1, ((other, ("back", R0)),))}, table=table)
        # Lists that stand for tuples are no other extras.
        other = at(ops, (0, 3), lambda old: ["row", 1])
        self.good(code=code, functions={MAIN: (1, 1, ((other, ("back", R0)),))}, table=table, inputs=[[5]])

    def test_a_name_that_is_given_anew_is_held_at_its_new_place_alone(self):
        code = Code({MAIN: made([NUM], NUM, Block([0], [neg(1, n(0))], Jump((1, ()))),
                                Block([], [TICK, noted(n(1)), neg(2, n(1))], Branch(YES, (1, ()), (2, ()))),
                                Block([], [], Back(n(2))))})
        blocks = [((("op", R0, "neg", None, (F0,)),), ("jump", 1)),
                  ((("tick",), ("log", R0), ("op", R1, "neg", None, (R0,))), ("branch", YES, 1, 2)), ((), ("back", R1))]
        table = {MAIN: [{F0: 0}, {R0: 1}, {R1: 2}]}
        self.good(code=code, functions={MAIN: (1, 1, blocks)}, table=table, inputs=[[5]])
        # That another place has it from the round before is claimed, but at the first time nothing has it.
        self.bad(code=code, functions={MAIN: (1, 1, blocks)}, table={MAIN: [{F0: 0}, {R0: 1, R1: 2}, {R1: 2}]})
        self.bad(code=code, functions={MAIN: (1, 1, blocks)}, table={MAIN: [{F0: 0}, {R0: 1, R1: 1}, {R1: 2}]})
        kept = at(blocks, (1, 0), lambda rows: (("move", R2, R1),) + rows)
        self.bad(code=code, functions={MAIN: (1, 1, kept)}, table={MAIN: [{F0: 0}, {R0: 1, R1: 2}, {R2: 2}]})


class Ends(Looked):
    def test_each_thing_in_an_end_put_otherwise(self):
        others = [R0, R1, R2, R3, F0, F1, F2, F3, ("num", 0), ("truth", True), ("truth", 1), 0, 1, 2, 3, 4, 5, 6, 7, 8,
                  9, 10, 11, 12, -1, True, False, None, "div", "mod", "call", "f", "main", "zero", "oops", "odd", "end",
                  "jump", "branch", "back", "raise", "risk", "", (), (F2,), (R0, F2), {}, ("reg", True),
                  (("zero", 9),), (("zero", 9), ("end", 6)), (("oops", 11), ("end", 6)), 10 ** 20]
        kept = 0
        for number in range(12):
            end = small_machine()[MAIN][2][number][1]
            paths = [(part,) for part in range(len(end))]
            paths += [(part, inner) for part in range(len(end)) if isinstance(end[part], tuple)
                      for inner in range(len(end[part]))]
            paths += [(6, catch, inner) for catch in range(len(end[6]) if len(end) > 6 else 0) for inner in range(2)]
            for path in paths:
                for other in others:
                    functions = self.with_machine(((2, number, 1) + path, other))
                    if self.looked(small(), functions, small_table()):
                        kept += 1
                        for given in SMALL_INPUTS[:6]:
                            self.runs_alike(small(), functions, given)
        self.assertGreater(kept, 30)

    def test_longer_and_shorter_ends(self):
        for number in range(12):
            end = small_machine()[MAIN][2][number][1]
            for other in [end[:-1], end + (None,), end + (1,), end[1:], (), [end], (end,), end[:1], None, "raise", 7]:
                self.bad(functions=self.with_machine(((2, number, 1), other)))

    def test_ends_of_another_sort(self):
        for number in range(7):
            for end in [("jump", 5), ("jump", 1), ("branch", F1, 1, 5), ("branch", YES, 5, 5), ("back", R1),
                        ("back", ("num", 0)), ("raise", "oops"), ("risk", "mul", None, (F0, F0), R1, 5, ())]:
                functions = self.with_machine(((2, number, 1), end))
                right = (number, end) in [(4, ("jump", 5)), (5, ("back", R1))]
                self.assertIs(self.looked(small(), functions, small_table()), right)

    def test_longer_and_shorter_blocks(self):
        blocks = small_machine()[MAIN][2]
        for number in range(12):
            block = blocks[number]
            for other in [block[:1], block + (None,), (), block[1:], None, block[0], {}, (None, block[1]),
                          ({}, block[1]), ("", block[1]), (block[0], None), ((None,), block[1])]:
                self.bad(functions=self.with_machine(((2, number), other)))

    def test_exchanged_blocks(self):
        blocks = small_machine()[MAIN][2]
        for one in range(7):
            for other in range(one):
                turned = list(blocks)
                turned[one], turned[other] = blocks[other], blocks[one]
                self.bad(functions=self.with_machine(((2,), turned)))
        for count in range(12):
            self.bad(functions=self.with_machine(((2,), blocks[:count])))

    def test_catches(self):
        catches = (("oops", 11), ("end", 6))
        for other in [catches[:1], catches[1:], catches[::-1], (), catches + (("more", 6),), catches + catches[1:],
                      (("oops", 6), ("end", 11)), (("end", 11), ("oops", 6)), ("oops", "end"), None, catches[0],
                      (("oops", 11, 0), ("end", 6)), (("oops",), ("end", 6)), ({}, {}), dict(catches), "ab"]:
            self.bad(functions=self.with_machine(((2, 3, 1, 6), other)))
        self.good(functions=self.with_machine(((2, 3, 1, 6), [list(catch) for catch in catches])))


class Further(Looked):
    def test_one_to_which_nothing_leads(self):
        for block in [((), ("jump", 0)), ((), ("jump", 5)), ((), ("jump", 12)), ((), ("jump", 999)), ((), ("jump", -1)),
                      ((("move", R2, R2),), ("jump", 3)), ((("move", F0, ("num", 1)), ("move", R0, F2)), ("jump", 0)),
                      ((), ("jump", 10 ** 50)), ([["move", ["reg", 0], ["truth", True]]], ["jump", 7])]:
            self.good(functions=self.with_block(block))
            self.good(functions=self.with_block(block, block))

    def test_one_of_another_form(self):
        for block in [((("tick",),), ("jump", 5)), ((), ("back", F0)), ((), ("raise", "oops")), ((), ("jump", True)),
                      ((), ("jump", None)), ((), ("jump", "5")), ((), ("jump", (5,))), ((), ("jump",)),
                      ((), ("jump", 5, 5)), ((("move", R3, F0),), ("jump", 5)), ((("move", F3, F0),), ("jump", 5)),
                      ((("move", F0, F3),), ("jump", 5)), ((("move", F0, R3),), ("jump", 5)),
                      ((("move", F0),), ("jump", 5)), ((("move", F0, F0, F0),), ("jump", 5)),
                      ((("move", ("num", 1), F0),), ("jump", 5)), ((("move", F0, ("num", True)),), ("jump", 5)),
                      ((("log", F0),), ("jump", 5)), ((("op", F0, "neg", None, (F0,)),), ("jump", 5)),
                      ((), ("branch", F1, 5, 5)), (((),), ("jump", 5)), ((None,), ("jump", 5)), (None, ("jump", 5)),
                      ((("move", ("reg", True), F0),), ("jump", 5)), ((("move", F0, ("reg", -1)),), ("jump", 5)),
                      None, (), ((), ()), ("", ""), {}, 5]:
            self.bad(functions=self.with_block(block))
            self.bad(functions=self.with_block(((), ("jump", 5)), block, ((), ("jump", 5))))

    def test_where_its_jump_leads(self):
        for number in range(7, 12):
            right = small_machine()[MAIN][2][number][1][1]
            for other in [*range(-2, 13), True, None, 10 ** 9]:
                functions = self.with_machine(((2, number, 1, 1), other))
                self.assertIs(self.looked(small(), functions, small_table()), shown(other) == shown(right))

    def test_none_leads_to_another(self):
        functions = self.with_machine(((2, 8, 1, 1), 12))
        functions = at(functions, (MAIN, 2), lambda blocks: blocks + (((), ("jump", 5)),))
        self.bad(functions=functions)

    def test_straight_to_the_partner(self):
        # With moves at the end of the block, and none along the edge.
        rows = small_machine()[MAIN][2][0][0] + (("move", R0, F2),)
        functions = at(self.with_rows(0, rows), (MAIN, 2, 0, 1, 2), lambda old: 1)
        self.good(functions=functions)
        self.bad(functions=self.with_machine(((2, 0, 1, 2), 1)))

    def test_one_without_moves(self):
        functions = at(self.with_block(((), ("jump", 3)), ((), ("jump", 2))), (MAIN, 2, 0, 1, 3), lambda old: 12)
        self.good(functions=functions)
        self.good(functions=at(functions, (MAIN, 2, 1, 1, 2), lambda old: 13))
        self.bad(functions=at(functions, (MAIN, 2, 0, 1, 3), lambda old: 13))

    def test_several_edges_share_one(self):
        # The catch of the call and a further way to block 5 have the same moves.
        code = small()
        blocks = list(code.functions[MAIN].blocks)
        blocks[6] = Block([], [], Jump((5, (n(2),))))
        code = code.with_function(MAIN, made([NUM, TRUTH], NUM, *blocks, n1=TRUTH, n4=TRUTH))
        functions = self.with_machine(((2, 6, 1), ("jump", 11)))
        self.good(code=code, functions=functions, table=self.with_claims((6, F2, 2)))
        self.bad(code=code, functions=functions)

    def test_in_another_order(self):
        chance = Random(1)
        for time in range(20):
            order = list(range(7, 12))
            chance.shuffle(order)
            numbers = {number: 7 + place for place, number in enumerate(order)}

            def renumbered(thing):
                if isinstance(thing, tuple) and thing[:1] in [("reg",), ("frame",), ("num",), ("truth",)]:
                    return thing
                if isinstance(thing, tuple):
                    return tuple(renumbered(part) for part in thing)
                return numbers.get(thing, thing)

            blocks = small_machine()[MAIN][2]
            self.good(functions=self.with_machine(
                ((2,), [renumbered(block) for block in blocks[:7]] + [blocks[number] for number in order])))


class Frames(Looked):
    def test_sizes(self):
        for size in [3, 4, 100, 10 ** 50]:
            self.good(functions=self.with_machine(((1,), size)))
        for size in [2, 1, 0, -1, True, None, "3", (3,), ("frame", 3)]:
            self.bad(functions=self.with_machine(((1,), size)))

    def test_how_many_it_takes(self):
        for count in [0, 1, 3, -2, True, None, "2", (2,)]:
            self.bad(functions=self.with_machine(((0,), count)))
        functions = small_machine()
        for part in [(True, 1), (1, True), (0, 1), (1, 0), (2, 2), (1, None)]:
            self.bad(functions={**functions, CALLED: part + functions[CALLED][2:]})

    def test_one_that_takes_more_than_it_needs(self):
        code = single([], Back(num(1)), [NUM, NUM])
        blocks = (((), ("back", ("num", 1))),)
        for size, good in [(2, True), (3, True), (1, False), (0, False)]:
            self.assertIs(self.looked(code, {MAIN: (2, size, blocks)}, {MAIN: [{}]}), good)
        code = single([], Back(num(1)))
        for size, good in [(0, True), (3, True), (-1, False), (False, False)]:
            self.assertIs(self.looked(code, {MAIN: (0, size, blocks)}, {MAIN: [{}]}), good)

    def test_registers(self):
        rows = small_machine()[MAIN][2][0][0]
        for number in range(9):
            functions = self.with_rows(0, rows + (("move", ("reg", number), F0),))
            for k in range(2, 9):
                (self.good if number < k else self.bad)(functions=functions, k=k)

    def test_parts_of_a_function(self):
        functions = small_machine()
        for text, function in functions.items():
            for other in [function[:2], function + (None,), (), function[1:], list(function[:2]),
                          dict(enumerate(function))]:
                self.bad(functions={**functions, text: other})
            self.good(functions={**functions, text: list(function)})


def in_frames(code):
    """A machine by hand: each name of a function has a place of the frame for itself, and registers are of no use."""
    functions, table = {}, {}
    for text, (takes, gives, kinds, blocks) in code.told():
        order = [name for params, rows, end in blocks for name in list(params) + [row[0] for row in rows]]
        places = {name: ("frame", place) for place, name in enumerate(name for name in order if name is not None)}
        size = len(places)
        above = given_at_begin(blocks)
        table[text] = [{places[name]: name for name in names} for names in above]
        made, further = [], []

        def of(operand):
            return places[operand[1]] if operand[0] == "name" else operand

        def lead(edge, handed):
            # By places that no name has, so that what is read was not yet written.
            params = blocks[edge[0]][0][handed:]
            rows = [("move", ("frame", size + place), of(arg)) for place, arg in enumerate(edge[1])]
            rows += [("move", places[name], ("frame", size + place)) for place, name in enumerate(params)]
            if handed:
                rows.append(("move", places[blocks[edge[0]][0][0]], ("frame", 3 * size)))
            further.append((rows, ("jump", edge[0])))
            return len(blocks) + len(further) - 1

        for params, rows, end in blocks:
            put = []
            for name, op, extra, operands in rows:
                sources = tuple(of(operand) for operand in operands)
                put.append((op,) + sources if name is None else ("op", places[name], op, extra, sources))
            end = put_end(end, lead, of)
            if end[0] == "risk":
                end = end[:4] + (("frame", 3 * size),) + end[4:]
            made.append((put, end))
        functions[text] = (len(takes), 3 * size + 1, made + further)
    return functions, table


def given_at_begin(blocks):
    """For each block the names that are given whenever it begins, its params among them, found from all downwards."""
    names = [set(params) | {row[0] for row in rows} - {None} for params, rows, end in blocks]
    found = [set.union(*names) for block in blocks]
    found[0] = set(blocks[0][0])
    changed = True
    while changed:
        changed = False
        for number in range(1, len(blocks)):
            ways = [found[one] | names[one] for one, block in enumerate(blocks)
                    if number in [edge[0] for edge, handed in told_edges([block])]]
            now = (set.intersection(*ways) - {row[0] for row in blocks[number][1]}) | set(blocks[number][0])
            if now != found[number]:
                found[number], changed = now, True
    return found


class ByChance(Looked):
    def codes(self, count):
        for seed in range(count):
            drawer, sower = Drawer(seed, calls=0.4), Sower(seed, size=50)
            takes = next(head[1] for head in sower.heads if head[0] == MAIN)
            yield seed, drawer.code(), [drawer.inputs() for time in range(2)]
            yield seed, sown_code(sower), [[sower.value(kind) for text, kind in takes] for time in range(2)]

    def test_told_ones(self):
        for seed, code, inputs in self.codes(100):
            for k in [2, 3 + seed % 6]:
                machine, table = allotted(code, k)
                self.assertTrue(self.looked(code, machine.functions, table, k))
                for given in inputs:
                    self.runs_alike(code, machine.functions, given)

    def test_all_names_in_the_frame(self):
        for seed, code, inputs in self.codes(80):
            functions, table = in_frames(code)
            self.assertTrue(self.looked(code, functions, table, 2))
            for given in inputs:
                self.runs_alike(code, functions, given)

    def test_the_machine_of_another_code(self):
        for seed, code, inputs in self.codes(60):
            other = Drawer(seed + 1000).code()
            machine, table = allotted(other, 4)
            self.looked(code, machine.functions, table, 4)
            self.looked(other, machine.functions, allotted(code, 4)[1], 4)

    def test_put_otherwise(self):
        """One thing somewhere is put otherwise; what still holds does the same."""
        others = [R0, R1, R2, F0, F1, F2, F3, 0, 1, 2, 3, 4, 5, 6, True, False, None, num(0), num(1), YES, (), {}, [],
                  ("tick",), ("move", R0, F0), ("move", R1, R0), ("jump", 1), ("back", R0), "add", "call", "zero"]
        kept = {"machine": 0, "table": 0}
        for seed, code, inputs in self.codes(110):
            chance = Random(seed)
            functions, table = in_frames(code) if seed % 4 == 0 else allotted(code, 2 + seed % 3)
            functions = functions if isinstance(functions, dict) else functions.functions
            for time in range(12):
                sort = chance.choice(["machine", "table"])
                thing = otherwise(functions if sort == "machine" else table, chance, others)
                for again in range(chance.randrange(2)):
                    thing = otherwise(thing, chance, others)
                if sort == "machine" and not isinstance(thing, dict):
                    continue
                pair = (thing, table) if sort == "machine" else (functions, thing)
                if self.looked(code, *pair, 4):
                    kept[sort] += 1
                    for given in inputs:
                        self.runs_alike(code, pair[0], given, [0, 1, 3, 20])
        self.assertGreater(min(kept.values()), 1, kept)

    def test_with_more_moves_and_claims(self):
        """Moves somewhere, and what they bring about claimed: much of it holds, and it does the same."""
        kept = tried = 0
        for seed, code, inputs in self.codes(120):
            chance = Random(seed)
            machine, table = allotted(code, 3)
            functions = machine.functions
            for time in range(10):
                text = chance.choice(code.names())
                takes, size, blocks = functions[text]
                places = [("reg", number) for number in range(4)] + [("frame", number) for number in range(size + 1)]
                number = chance.randrange(len(blocks))
                rows = list(blocks[number][0])
                for again in range(chance.randrange(3)):
                    row = ("move", chance.choice(places), chance.choice(places + [num(1), YES]))
                    rows.insert(chance.randrange(len(rows) + 1), row)
                changed = at(functions, (text,), lambda old: (takes, size + 1, blocks))
                changed = at(changed, (text, 2, number, 0), lambda old: tuple(rows))
                claims = copy.deepcopy(table)
                for again in range(chance.randrange(3)):
                    claim = chance.choice(claims[text])
                    claim[chance.choice(places)] = chance.choice(sorted(code.functions[text].kinds) or [0])
                tried += 1
                if self.looked(code, changed, claims, 4):
                    kept += 1
                    for given in inputs:
                        self.runs_alike(code, changed, given, [0, 1, 3, 20])
        self.assertGreater(kept, 300, tried)
        self.assertGreater(tried - kept, 300)

    def test_truths_for_numbers(self):
        def with_truths(thing, path=()):
            """Each path to a 0 or a 1."""
            if thing.__class__ is int and thing in (0, 1):
                yield path
            if isinstance(thing, (list, tuple)):
                for place, part in enumerate(thing):
                    yield from with_truths(part, path + (place,))
            if isinstance(thing, dict):
                for key, part in thing.items():
                    yield from with_truths(part, path + (key,))

        for code in [small(), sample_code(), looped_rows()]:
            machine, table = allotted(code, 3)
            paths = list(with_truths(machine.functions))
            self.assertGreater(len(paths), 10)
            for path in paths:
                other = at(machine.functions, path, bool)
                self.assertFalse(self.looked(code, other, table, 3), path)
            for path in with_truths(table):
                self.assertFalse(self.looked(code, machine.functions, at(table, path, bool), 3), path)
            for text, claims in table.items():
                for number, claim in enumerate(claims):
                    for place, name in claim.items():
                        if place[1] in (0, 1):
                            other = copy.deepcopy(table)
                            del other[text][number][place]
                            other[text][number][(place[0], bool(place[1]))] = name
                            self.assertFalse(self.looked(code, machine.functions, other, 3))

    def test_any_keys(self):
        for thing in things():
            if is_plain(thing):
                self.bad(table={**small_table(), thing: []})
                self.bad(table=at(small_table(), (MAIN, 6), lambda old: {thing: 0}))
                self.bad(table=at(small_table(), (MAIN, 4), lambda old: {**old, thing: 6}))
                self.bad(functions={**small_machine(), thing: small_machine()[CALLED]})
                self.bad(functions={thing: small_machine()[MAIN]})


def looped_rows():
    """A code of rows of one number, and numbers of parts."""
    wide = ("row", 1)
    return Code({MAIN: made([wide], NUM, Block([0], [Row(1, "make", ("row", 1), [num(1)])], Jump((1, (n(0), n(1))))),
                            Block([2, 3], [TICK, Row(4, "get", 0, [n(2)]), Row(5, "put", 0, [n(3), num(1)]),
                                           noted(n(4))], Branch(YES, (1, (n(5), n(2))), (2, ()))),
                            Block([], [], Risk("pick", None, [n(2), num(1)], (3, ()), [])),
                            Block([6], [], Back(n(6))), n0=wide, n1=wide, n2=wide, n3=wide, n5=wide)})


if __name__ == "__main__":
    unittest.main()
