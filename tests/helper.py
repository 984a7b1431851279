"""What several tests need: things of every kind, 1 told apart from True, trees, programs by chance, codes, pairs."""

import unittest
from itertools import product
from random import Random

from eachstepsame.blockrun import run_blocks
from eachstepsame.blocks import Back, Block, Branch, Code, Function, Jump, Raise, Risk, Row
from eachstepsame.errors import Fault, StepError
from eachstepsame.fits import need_fit, operand_kind, rulers
from eachstepsame.lowering import lowered
from eachstepsame.ops import reckoned
from eachstepsame.passes import measure
from eachstepsame.rewriting import same_paper
from eachstepsame.typer import typed
from eachstepsame.walk import Walk

NUM = ("num",)
TRUTH = ("truth",)

FIELD_TUPLES = [fields for count in range(1, 5) for fields in product((NUM, TRUTH), repeat=count)]
ROWS = [("row", count) for count in range(1, 7)]
RECORDS = [("record", fields) for fields in FIELD_TUPLES]
KINDS = [NUM, TRUTH] + ROWS + RECORDS


def plain_things():
    greatest = int("9" * 60)
    printable = "".join(chr(code) for code in range(32, 127) if code != 37)
    return [
        0, 1, 2, 6, 7, -1, 10 ** 49, greatest, -greatest, True, False, None,
        "", " ", "a", "num", "truth", "row", "record", "name", "copy", "add", "mul", "zero", "call",
        "Num", "1", "True", "None", printable, "x" * 100,
    ]


def within_ten(core):
    thing = core
    for depth in range(3):
        thing = {"a": ([thing],)}
    return thing


def things():
    """Numbers, texts, truths, None, lists, tuples and dicts, within one another too."""
    plain = plain_things()
    few = [0, 1, True, False, None, "num", "row", "a", (), [], {}, NUM, ["num"], {"num": 1}]
    held = [(), [], {}, {1: 2}, {"num": None}, {(): []}, {(1, ("a",)): [{}]}]
    for thing in plain:
        held.extend([(thing,), [thing], {"a": thing}, {thing: thing}, ((thing,),), [[thing]]])
    for one in few:
        for other in few:
            held.extend([(one, other), [one, other], {"a": one, "b": other}, (one, (other,)), (one, [other])])
    held.extend([(1, 2, 3), [1, 2, 3], (True, False), ("num", 1, 2), [("num", 1)], within_ten(1), within_ten([])])
    return plain + held


def shown(thing):
    """A text that is equal just where things are the same ones, 1 and True or a list and a tuple apart."""
    return repr(thing)


def refusal(asked, *handed):
    """The class of the refusal that comes, by its name, with its fields in order; None where none comes."""
    try:
        asked(*handed)
    except StepError as error:
        return (error.__class__.__name__,) + tuple(vars(error).values())
    return None


def num(value):
    return ("num", value)


def name(text):
    return ("name", text)


def two(op, one, other):
    return ("two", op, one, other)


def one(op, part):
    return ("one", op, part)


def call(function, *parts):
    return ("call", function, parts)


def new(record, *parts):
    return ("new", record, parts)


def row(*parts):
    return ("row", parts)


def field(whole, text):
    return ("field", whole, text)


def index(whole, place):
    return ("index", whole, place)


def let(text, value):
    return ("let", text, value)


def put(text, value):
    return ("set", text, value)


def setat(text, place, value):
    return ("setat", text, place, value)


def setfield(text, part, value):
    return ("setfield", text, part, value)


def choice(test, yes, no=()):
    return ("if", test, tuple(yes), tuple(no))


def loop(test, *rows):
    return ("while", test, rows)


def log(value):
    return ("log", value)


def do(value):
    return ("do", value)


def back(value):
    return ("return", value)


def fails(fault):
    return ("raise", fault)


def trying(rows, *catches):
    return ("try", tuple(rows), tuple((fault, tuple(caught)) for fault, caught in catches))


def fun(text, takes, gives, *rows):
    return ("fun", text, tuple(takes), gives, rows)


def main(*rows):
    """A program of a main alone, which takes nothing and gives a number."""
    return ((), (fun("main", [], NUM, *rows),))


YES, NO = ("truth", True), ("truth", False)


def below(node):
    """The nodes right beneath a node, told anew: whatever in it begins with the word of an expression or a row."""
    word, rest = node[0], node[1:]
    if word in ("num", "truth", "name", "raise"):
        return []
    if word == "try":
        return list(rest[0]) + [part for catch in rest[1] for part in catch[1]]
    if word == "fun":
        return list(rest[3])
    found = []
    for part in rest:
        if isinstance(part, tuple):
            found.extend([part] if part and isinstance(part[0], str) else part)
    return found


def nodes(program):
    """All nodes of a program in the order of their numbers."""
    found = list(program[0])
    waiting = list(reversed(program[1]))
    while waiting:
        node = waiting.pop()
        found.append(node)
        waiting.extend(reversed(below(node)))
    return found


def place_of(program, node):
    found = [place for place, other in enumerate(nodes(program)) if shown(other) == shown(node)]
    if len(found) != 1:
        raise AssertionError(f"{node} stands at {found}")
    return found[0]


class Sower:
    """Programs that are let by, by chance but the same for the same seed."""

    def __init__(self, seed, size=40):
        self.chance = Random(seed)
        self.left = size
        self.records = [("r" + letter, self.some_fields()) for letter in "abc"[:self.chance.randrange(4)]]
        self.kinds = [NUM, NUM, TRUTH, ("row", 1), ("row", 3)] + [("named", record[0]) for record in self.records]
        texts = ["main"] + ["f" + letter for letter in "abc"[:self.chance.randrange(4)]]
        self.chance.shuffle(texts)
        self.heads = [(text, self.some_takes(), self.chance.choice(self.kinds)) for text in texts]

    def program(self):
        functions = []
        for text, takes, gives in self.heads:
            self.gives, self.fresh = gives, 0
            rows = self.rows(dict(takes), 3, self.chance.randrange(1, 6))
            if self.chance.random() < 0.8:
                rows += (back(self.expression(gives, dict(takes), 2)),)
            functions.append(fun(text, takes, gives, *rows))
        return (tuple(self.records), tuple(functions))

    def some_fields(self):
        return tuple((letter, self.chance.choice([NUM, TRUTH])) for letter in "pqrs"[:self.chance.randrange(1, 5)])

    def some_takes(self):
        return tuple((letter, self.chance.choice(self.kinds)) for letter in "abcd"[:self.chance.randrange(5)])

    def value(self, kind):
        """A value of a kind as the tree tells kinds."""
        if kind == NUM:
            return self.chance.choice([0, 1, 2, 3, -4, 10 ** 20])
        if kind == TRUTH:
            return self.chance.random() < 0.5
        if kind[0] == "row":
            return tuple(self.value(NUM) for place in range(kind[1]))
        return tuple(self.value(part) for text, part in dict(self.records)[kind[1]])

    def expression(self, kind, there, depth):
        self.left -= 1
        locals_fit = [text for text, other in there.items() if other == kind]
        if locals_fit and (self.chance.random() < 0.4 or depth < 1):
            return name(self.chance.choice(locals_fit))
        if depth > 0 and self.left > 0:
            calls = [head for head in self.heads if head[2] == kind]
            if calls and self.chance.random() < 0.25:
                head = self.chance.choice(calls)
                return call(head[0], *[self.expression(part, there, depth - 1) for text, part in head[1]])
            return self.deep(kind, there, depth - 1)
        return self.flat(kind)

    def flat(self, kind):
        if kind == NUM:
            return num(self.chance.choice([0, 0, 1, 2, 3, 10 ** 20 - 1]))
        if kind == TRUTH:
            return self.chance.choice([YES, NO])
        if kind[0] == "row":
            return row(*[self.flat(NUM) for place in range(kind[1])])
        return new(kind[1], *[self.flat(part) for text, part in dict(self.records)[kind[1]]])

    def deep(self, kind, there, depth):
        fields = [(record, text) for record, parts in self.records for text, part in parts if part == kind]
        if fields and self.chance.random() < 0.3:
            record, text = self.chance.choice(fields)
            return field(self.expression(("named", record), there, depth), text)
        if kind[0] == "row":
            return row(*[self.expression(NUM, there, depth) for place in range(kind[1])])
        if kind[0] == "named":
            return new(kind[1], *[self.expression(part, there, depth) for text, part in dict(self.records)[kind[1]]])
        pick = self.chance.choice
        if kind == TRUTH:
            op = pick(["<", "=", "and", "or", "not"])
            part = NUM if op in "<=" else TRUTH
            if op == "not":
                return one(op, self.expression(part, there, depth))
            return two(op, self.expression(part, there, depth), self.expression(part, there, depth))
        op = pick(["+", "-", "*", "/", "mod", "neg", "index", "index"])
        if op == "neg":
            return one("-", self.expression(NUM, there, depth))
        if op == "index":
            return index(self.expression(pick([("row", 1), ("row", 3)]), there, depth), num(pick([0, 0, 1, 2])))
        return two(op, self.expression(NUM, there, depth), self.expression(NUM, there, depth))

    def rows(self, there, depth, count):
        there, found = dict(there), []
        while count > 0 and self.left > 0:
            found.append(self.row(there, depth))
            count -= 1
        return tuple(found)

    def row(self, there, depth):
        self.left -= 1
        sort = self.chance.choice(["let", "let", "let", "set", "set", "part", "part", "if", "while", "log", "log", "do",
                                   "return", "raise", "try", "try"])
        if sort in ("if", "while", "try") and depth > 0:
            return self.wide(sort, there, depth - 1)
        if sort in ("set", "part") and there:
            text = self.chance.choice(sorted(there))
            return self.changed(sort, text, there)
        if sort == "log":
            return log(self.expression(self.chance.choice([NUM, TRUTH]), there, 2))
        if sort == "do":
            return do(self.expression(self.chance.choice(self.kinds), there, 2))
        if sort == "return" and self.chance.random() < 0.4:
            return back(self.expression(self.gives, there, 2))
        if sort == "raise" and self.chance.random() < 0.4:
            return fails(self.chance.choice(["zero", "end", "oops"]))
        self.fresh += 1
        text, kind = "x" + "abcdefghijklmnopqrstuvwxyz"[self.fresh % 26] * (1 + self.fresh // 26), NUM
        if self.chance.random() < 0.5:
            kind = self.chance.choice(self.kinds)
        made = let(text, self.expression(kind, there, 2))
        there[text] = kind
        return made

    def changed(self, sort, text, there):
        kind = there[text]
        if sort == "part" and kind[0] == "row":
            return setat(text, num(self.chance.choice([0, 0, 1, 2, 3])), self.expression(NUM, there, 2))
        if sort == "part" and kind[0] == "named":
            part = self.chance.choice(dict(self.records)[kind[1]])
            return setfield(text, part[0], self.expression(part[1], there, 2))
        return put(text, self.expression(kind, there, 2))

    def wide(self, sort, there, depth):
        some = [self.rows(there, depth, self.chance.randrange(4)) for side in range(3)]
        if sort == "if":
            return choice(self.expression(TRUTH, there, 2), some[0], some[1])
        if sort == "while":
            return loop(self.expression(TRUTH, there, 2), *some[0])
        faults = self.chance.sample(["zero", "range", "great", "end", "oops"], self.chance.randrange(1, 4))
        return trying(some[0], *zip(faults, [some[1], some[2], some[1]]))


def n(number):
    return ("name", number)


FLAG = ("record", (TRUTH, NUM))
TICK = Row(None, "tick", None, ())


def sample_main():
    """All five ends, a loop, params, results, catches and a call."""
    kinds = {number: NUM for number in [0, 2, 3, 5, 6, 7, 8, 9, 11]}
    kinds.update({1: TRUTH, 4: TRUTH, 10: FLAG})
    return Function((NUM, TRUTH), NUM, kinds, [
        Block((0, 1), [Row(2, "add", None, [n(0), num(1)])], Branch(n(1), (1, (n(2),)), (5, ()))),
        Block((3,), [TICK, Row(4, "less", None, [n(3), num(10)])], Branch(n(4), (2, ()), (4, (n(3),)))),
        Block((), [Row(None, "log", None, [n(3)]), Row(5, "sub", None, [n(3), n(0)])],
              Risk("div", None, [n(5), n(2)], (3, (num(7),)), [("zero", (4, (num(0),)))])),
        Block((6, 7), [Row(8, "add", None, [n(6), n(7)])], Jump((1, (n(8),)))),
        Block((9,), [], Back(n(9))),
        Block((), [], Risk("call", "f", [n(2)], (6, ()), [("oops", (7, ())), ("end", (7, ()))])),
        Block((10,), [Row(11, "get", 1, [n(10)])], Jump((4, (n(11),)))),
        Block((), [], Raise("oops")),
    ])


def sample_code():
    f = Function((NUM,), FLAG, {0: NUM, 1: FLAG, 2: FLAG, 3: ("row", 2), 4: ("row", 2)}, [
        Block((0,), [Row(1, "make", FLAG, [YES, n(0)]), Row(2, "put", 0, [n(1), NO])],
              Risk("call", "g", [n(0)], (1, ()), [])),
        Block((3,), [], Risk("lay", None, [n(3), num(0), n(0)], (2, ()), [("range", (3, ()))])),
        Block((4,), [], Back(n(2))),
        Block((), [], Back(n(1))),
    ])
    g = Function((NUM,), ("row", 2), {5: NUM, 6: ("row", 2), 7: ("row", 2)}, [
        Block((5,), [Row(6, "make", ("row", 2), [n(5), num(1)]), Row(7, "copy", None, [n(6)]),
                     Row(None, "log", None, [YES])], Back(n(7))),
    ])
    return Code({"main": sample_main(), "g": g, "f": f})


def graph(*ways):
    """A function of blocks with just these edges; each has a tick row, so that rounds are well made."""
    blocks = []
    for followers in ways:
        if len(followers) > 2:
            end = Risk("call", "main", [], (followers[0], ()), [
                ("f" + "abcdefgh"[place], (other, ())) for place, other in enumerate(followers[1:])])
        elif len(followers) == 2:
            end = Branch(YES, (followers[0], ()), (followers[1], ()))
        else:
            end = Jump((followers[0], ())) if followers else Raise("oops")
        blocks.append(Block((), [TICK], end))
    return Function((), NUM, {}, blocks)


def noted(operand):
    """A log row."""
    return Row(None, "log", None, [operand])


def neg(name, operand):
    return Row(name, "neg", None, [operand])


def add(name, one, other):
    return Row(name, "add", None, [one, other])


def made(takes, gives, *blocks, **kinds):
    """A function; names are numbers from 0 on, of numbers where kinds tells no other kind: n3=TRUTH."""
    given = [name for block in blocks for name in block.given()]
    told = {name: kinds.get("n" + str(name), NUM) for name in given}
    return Function(takes, gives, told, blocks)


def single(rows, end, takes=(), gives=NUM, **kinds):
    return Code({"main": made(takes, gives, Block(range(len(takes)), rows, end), **kinds)})


def plain_cases(a, p):
    """Of each plain row, of a number and a truth: its operation, its operands, and what it plainly gives."""
    zero = num(0)
    return [
        ("add", a, zero, a), ("add", zero, a, a), ("sub", a, zero, a), ("sub", a, a, zero), ("less", a, a, NO),
        ("same", a, a, YES), ("and", p, YES, p), ("and", YES, p, p), ("and", p, NO, NO), ("and", NO, p, NO),
        ("or", p, NO, p), ("or", NO, p, p), ("or", p, YES, YES), ("or", YES, p, YES),
    ]


def sown_code(sower):
    return lowered(typed(sower.program()))


class BlockOracle:
    """Runs what a code tells as tuples: a generator for each call, in a pile of generators."""

    def __init__(self, code, budget):
        self.functions, self.budget = dict(code.told()), budget
        self.log, self.took, self.steps, self.answer = [], 0, 0, None

    def run(self, inputs):
        pile, sent = [self.function("main", inputs)], None
        while pile:
            try:
                asked = pile[-1].send(sent)
            except StopIteration as left:
                pile.pop()
                sent = left.value
                continue
            if asked == "dry":
                return ("dry", None, tuple(self.log), self.took)
            pile.append(self.function(*asked))
            sent = None
        self.answer = sent[1]
        thing = sent[1] if sent[0] == "fault" else self.outward(sent[1])
        return (sent[0], thing, tuple(self.log), self.took)

    def outward(self, value):
        if isinstance(value, tuple):
            return tuple(self.outward(part) for part in value)
        return ("truth" if isinstance(value, bool) else "num", value)

    def tick(self):
        if self.took == self.budget:
            return False
        self.took += 1
        return True

    def function(self, text, given):
        """Asks for calls, and is left with (answer, value) or (fault, name)."""
        blocks = self.functions[text][3]
        number, there = 0, {}

        def of(operand):
            return there[operand[1]] if operand[0] == "name" else operand[1]

        while True:
            params, rows, end = blocks[number]
            there = {**there, **dict(zip(params, given))}
            for name, op, extra, operands in rows:
                self.steps += 1
                if op == "tick" and not self.tick():
                    yield "dry"
                if op == "log":
                    self.log.append(self.outward(of(operands[0])))
                if name is not None:
                    there[name] = reckoned(op, extra, [of(operand) for operand in operands])
            self.steps += 1
            ahead, result = [], None
            if end[0] == "back":
                return ("answer", of(end[1]))
            if end[0] == "raise":
                return ("fault", end[1])
            if end[0] == "risk":
                if end[1] == "call":
                    if not self.tick():
                        yield "dry"
                    result = yield (end[2], [of(operand) for operand in end[3]])
                else:
                    try:
                        result = ("answer", reckoned(end[1], end[2], [of(operand) for operand in end[3]]))
                    except Fault as fault:
                        result = ("fault", fault.name)
                if result[0] == "fault" and result[1] not in dict(end[5]):
                    return result
                ahead = [result[1]] if result[0] == "answer" else []
                edge = end[4] if result[0] == "answer" else dict(end[5])[result[1]]
            else:
                edge = end[1] if end[0] == "jump" else end[2] if of(end[1]) else end[3]
            number, given = edge[0], ahead + [of(arg) for arg in edge[1]]


class MachineOracle(BlockOracle):
    """Runs what a machine tells. A place that was not written, or a register since the last call, is not there."""

    def function(self, text, given):
        takes, frame, blocks = self.functions[text]
        if len(given) != takes or frame < takes:
            raise AssertionError((text, given))
        there = {("frame", place): value for place, value in enumerate(given)}
        number = 0

        def of(source):
            return there[source] if source[0] in ("reg", "frame") else source[1]

        while True:
            rows, end = blocks[number]
            for word, *rest in rows:
                self.steps += 1
                if word == "tick" and not self.tick():
                    yield "dry"
                if word == "log":
                    self.log.append(self.outward(of(rest[0])))
                if word == "move":
                    there[rest[0]] = of(rest[1])
                if word == "op":
                    there[rest[0]] = reckoned(rest[1], rest[2], [of(source) for source in rest[3]])
            self.steps += 1
            if end[0] in ("back", "raise"):
                return ("answer", of(end[1])) if end[0] == "back" else ("fault", end[1])
            if end[0] in ("jump", "branch"):
                number = end[1] if end[0] == "jump" else end[2] if of(end[1]) else end[3]
                continue
            word, op, extra, sources, place, number, catches = end
            if op == "call":
                if not self.tick():
                    yield "dry"
                result = yield (extra, [of(source) for source in sources])
                there = {place: value for place, value in there.items() if place[0] == "frame"}
            else:
                try:
                    result = ("answer", reckoned(op, extra, [of(source) for source in sources]))
                except Fault as fault:
                    result = ("fault", fault.name)
            if result[0] == "answer":
                there[place] = result[1]
            elif result[1] in dict(catches):
                number = dict(catches)[result[1]]
            else:
                return result


def moments(function):
    """For each moment, a tuple of a block and how many of its rows are done, the names that are needed then.

    A second reading: name by name one goes back from where it is read, until no more params are needed.
    """
    blocks = function.told()[3]
    needed = {(number, place): set() for number, block in enumerate(blocks) for place in range(len(block[1]) + 1)}
    leading = [(number, edge, handed) for number, block in enumerate(blocks)
               for edge, handed in told_edges([block])]

    def reads(number, place):
        rows, end = blocks[number][1:]
        if place < len(rows):
            return rows[place][3]
        own = {"branch": end[1:2], "back": end[1:2], "risk": end[3] if end[0] == "risk" else ()}.get(end[0], ())
        return tuple(own) + tuple(arg for arg in wanted_args(blocks, needed, number))

    while True:
        kept = sum(len(names) for names in needed.values())
        for moment in needed:
            for word, text in reads(*moment):
                if word == "name":
                    back_from(text, moment, blocks, needed, leading)
        if kept == sum(len(names) for names in needed.values()):
            return needed


def wanted_args(blocks, needed, number):
    """The args of a block's edges whose params are needed when the edge's block begins."""
    found = []
    for (to, args), handed in told_edges([blocks[number]]):
        found += [arg for param, arg in zip(blocks[to][0][handed:], args) if param in needed[(to, 0)]]
    return found


def back_from(text, moment, blocks, needed, leading):
    waiting = [moment]
    while waiting:
        number, place = moment = waiting.pop()
        if text in needed[moment]:
            continue
        needed[moment].add(text)
        if place > 0:
            if blocks[number][1][place - 1][0] != text:
                waiting.append((number, place - 1))
        elif text not in blocks[number][0]:
            waiting += [(one, len(blocks[one][1])) for one, edge, handed in leading if edge[0] == number]


def over_calls(function):
    """The names that are needed over some call."""
    blocks, needed, found = function.told()[3], moments(function), set()
    for number, block in enumerate(blocks):
        if block[2][:2] == ("risk", "call"):
            found.update(arg[1] for arg in wanted_args(blocks, needed, number) if arg[0] == "name")
            for (to, args), handed in told_edges([block]):
                found |= needed[(to, 0)] - set(blocks[to][0])
    return found


def wanted_homes(function, k):
    """The homes of names, by a second reading."""
    sets, calls, found = list(moments(function).values()), over_calls(function), {}
    for place, name in enumerate(function.blocks[0].params):
        found[name] = ("frame", place)
    for name in [name for block in function.blocks for name in block.given()]:
        if name in found or not any(name in names for names in sets):
            continue
        taken = {found[other] for names in sets if name in names for other in names if other in found}
        some = [("reg", number) for number in range(k - 1)] * (name not in calls)
        some += [("frame", number) for number in range(len(found) + len(function.takes) + 1)]
        found[name] = next(place for place in some if place not in taken)
    return found


def changed(function, number=0, **parts):
    """The function with some parts of one block, or the kinds, the takes or what it gives, put otherwise."""
    block = function.blocks[number]
    made = Block(parts.get("params", block.params), parts.get("rows", block.rows), parts.get("end", block.end))
    blocks = function.blocks[:number] + (made,) + function.blocks[number + 1:] + tuple(parts.get("more", ()))
    kinds = {**function.kinds, **parts.get("kinds", {})}
    for text in parts.get("without", ()):
        del kinds[text]
    return Function(parts.get("takes", function.takes), parts.get("gives", function.gives), kinds, blocks)


def as_now(operand, images):
    return images.get(operand[1]) if operand[0] == "name" else operand


class Rougher:
    """A code behind is made rougher again and again, without doing otherwise; so there is a code ahead, and a paper."""

    def __init__(self, code, seed, times=4):
        self.chance, self.behind, self.ahead, self.used = Random(seed), code, code, set()
        self.paper = same_paper(code)
        for time in range(times):
            sort = self.chance.choice(["copy", "plain", "fold", "moved", "param", "known", "known", "more"])
            text = self.chance.choice(code.names())
            function = self.ahead.functions[text]
            self.fresh = max(list(function.kinds) + list(code.functions[text].kinds), default=-1) + 1
            before = shown((self.ahead.told(), self.paper))
            made = getattr(self, sort)(function, self.chance.randrange(len(function.blocks)), self.paper[text][1])
            if made is not None and made.told() != function.told():
                self.ahead = self.ahead.with_function(text, made)
                self.used.add(sort)
            elif shown((self.ahead.told(), self.paper)) != before:
                raise AssertionError(sort)

    def operand_in(self, function, number, kinds):
        """Some operand of one of these kinds that a row or an end of the block reads; None where there is none."""
        block = function.blocks[number]
        read = [operand for line in block.rows for operand in line.operands] + block.end.every_read()
        some = [operand for operand in read if operand_kind(function, operand) in kinds]
        return self.chance.choice(some) if some else None

    def put_ahead(self, function, number, operand, row, images):
        """The row right ahead of what reads the operand first; from there on its name stands there."""
        block, rows, done = function.blocks[number], [], False
        told = {operand[1]: n(self.fresh)} if operand[0] == "name" else {}

        def otherwise(line, told):
            if operand[0] == "name" or line.op == "tick":
                return line.moved(told, {})
            operands = [n(self.fresh) if one == operand else one for one in line.operands]
            return Row(line.name, line.op, line.extra, operands)

        for line in block.rows:
            if not done and operand in line.operands:
                rows.append(row)
                done = True
            rows.append(otherwise(line, told) if done else line)
        if not done:
            rows.append(row)
        kind = operand_kind(function, operand)
        images[self.fresh] = as_now(operand, images)
        end = block.end.moved(told, {})
        return changed(function, number, rows=rows, end=end, kinds={self.fresh: kind})

    def copy(self, function, number, images):
        operand = self.operand_in(function, number, KINDS)
        if operand is None or as_now(operand, images) is None:
            return None
        return self.put_ahead(function, number, operand, Row(self.fresh, "copy", None, [operand]), images)

    def plain(self, function, number, images):
        operand = self.operand_in(function, number, [NUM, TRUTH])
        if operand is None or as_now(operand, images) is None:
            return None
        zero = num(0)
        rows = {NUM: [("add", operand, zero), ("add", zero, operand), ("sub", operand, zero)],
                TRUTH: [("and", operand, YES), ("and", YES, operand), ("or", operand, NO), ("or", NO, operand)]}
        op, left, right = self.chance.choice(rows[operand_kind(function, operand)])
        return self.put_ahead(function, number, operand, Row(self.fresh, op, None, [left, right]), images)

    def fold(self, function, number, images):
        block = function.blocks[number]
        read = [operand for line in block.rows for operand in line.operands]
        some = [operand for operand in read if operand[0] != "name"]
        if not some:
            return None
        word, value = operand = self.chance.choice(some)
        rows = {"num": [("sub", [num(value + 3), num(3)]), ("neg", [num(-value)]), ("copy", [operand])],
                "truth": [("not", [("truth", not value)]), ("and", [operand, operand]), ("same", [num(1),
                                                                                                  num(int(value))])]}
        op, operands = self.chance.choice(rows[word])
        return self.put_ahead(function, number, operand, Row(self.fresh, op, None, operands), images)

    def moved(self, function, number, images):
        """A row of a block that rules this one, once more, and what it gives read from there."""
        above = [one for one in rulers(function)[number] if one != number]
        lines = [line for one in above for line in function.blocks[one].rows if line.name is not None]
        lines = [line for line in lines if line.name in images and None not in [as_now(x,
                                                                                       images) for x in line.operands]]
        if not lines:
            return None
        line = self.chance.choice(lines)
        row = Row(self.fresh, line.op, line.extra, line.operands)
        block = function.blocks[number]
        told = {line.name: n(self.fresh)}
        images[self.fresh] = images[line.name]
        return changed(function, number, rows=[row] + [one.moved(told, {}) for one in block.rows],
                       end=block.end.moved(told, {}), kinds={self.fresh: function.kinds[line.name]})

    def param(self, function, number, images):
        """One param more, to which all edges hand one operand, which it stands for in its block."""
        if number == 0:
            return None
        above = [one for one in rulers(function)[number] if one != number]
        names = [text for one in above for text in function.blocks[one].given() if text in images]
        operand = self.chance.choice([n(text) for text in names] + [num(4), YES])
        told = {operand[1]: n(self.fresh)} if operand[0] == "name" else {}
        blocks = []
        for place, block in enumerate(function.blocks):
            params, rows, end = block.params, block.rows, block.end
            if place == number:
                params, rows, end = params + (self.fresh,), [line.moved(told, {}) for line in rows], end.moved(told, {})
            itself = n(self.fresh) if place == number and self.chance.random() < 0.5 else operand
            blocks.append(Block(params, rows, self.handing(end, number, itself)))
        kinds = {**function.kinds, self.fresh: operand_kind(function, operand)}
        images[self.fresh] = as_now(operand, images)
        return Function(function.takes, function.gives, kinds, blocks)

    def handing(self, end, number, operand):
        def more(edge):
            return (edge[0], edge[1] + (operand,)) if edge[0] == number else edge
        told = end.told()
        if told[0] == "jump":
            return Jump(more(end.edge))
        if told[0] == "branch":
            return Branch(end.test, more(end.yes), more(end.no))
        if told[0] == "risk":
            return Risk(end.op, end.extra, end.asked, more(end.edge), [(fault, more(way)) for fault,
                                                                       way in end.catches])
        return end

    def known(self, function, number, images):
        """A jump or a raise becomes an end that is known; other ways lead to a block without partner."""
        some = [place for place, block in enumerate(function.blocks) if isinstance(block.end, (Jump, Raise))]
        number = self.chance.choice(some) if some else number
        end, waste, more = function.blocks[number].end, len(function.blocks), Block((), (), Raise("waste"))
        result, kinds = Block((self.fresh,), (), Raise("waste")), {}
        great = num(10 ** 30)
        if isinstance(end, Jump) and end.edge[1] and end.edge[1][0][0] == "num" and self.chance.random() < 0.7:
            value, more = end.edge[1][0][1], None
            end = Risk("div", None, [num(2 * value), num(2)], (end.edge[0], end.edge[1][1:]), [("zero", end.edge)])
        elif isinstance(end, Jump) and self.chance.random() < 0.5:
            more, kinds = result, {self.fresh: NUM}
            end = Risk("mul", None, [great, great], (waste, ()), [("zero", end.edge), ("great", end.edge)])
        elif isinstance(end, Jump):
            test = self.chance.choice([YES, NO])
            sides = [end.edge, (waste, ())]
            end = Branch(test, *(sides if test == YES else sides[::-1]))
        elif isinstance(end, Raise) and end.fault == "zero":
            more, kinds = result, {self.fresh: NUM}
            end = Risk("mod", None, [num(1), num(0)], (waste, ()), [])
        else:
            return None
        return changed(function, number, end=end, more=[more] if more else [], kinds=kinds)

    def more(self, function, number, images):
        """A row that nobody reads, and that has no image."""
        rows = list(function.blocks[number].rows)
        place = self.chance.randrange(len(rows) + 1)
        rows.insert(place, Row(self.fresh, "add", None, [num(1), num(1)]))
        return changed(function, number, rows=rows, kinds={self.fresh: NUM})


WIDE = ("row", 2)


class Drawer:
    """Codes drawn without a program: any graph, and params handed whatever is given there, often the same."""

    OPS = [("copy", None, [NUM], NUM), ("copy", None, [TRUTH], TRUTH), ("copy", None, [WIDE], WIDE),
           ("add", None, [NUM, NUM], NUM), ("add", None, [NUM, NUM], NUM), ("sub", None, [NUM, NUM], NUM),
           ("neg", None, [NUM], NUM), ("less", None, [NUM, NUM], TRUTH), ("same", None, [NUM, NUM], TRUTH),
           ("and", None, [TRUTH, TRUTH], TRUTH), ("or", None, [TRUTH, TRUTH], TRUTH), ("not", None, [TRUTH], TRUTH),
           ("make", WIDE, [NUM, NUM], WIDE), ("make", FLAG, [TRUTH, NUM], FLAG), ("get", 0, [WIDE], NUM),
           ("get", 1, [WIDE], NUM), ("put", 0, [WIDE, NUM], WIDE), ("put", 1, [WIDE, NUM], WIDE)]
    RISKS = [("mul", [NUM, NUM], "great"), ("div", [NUM, NUM], "zero"), ("mod", [NUM, NUM], "zero"),
             ("pick", [WIDE, NUM], "range")]
    CONSTANTS = {NUM: [num(0), num(1), num(10 ** 40)], TRUTH: [YES, NO]}

    def __init__(self, seed, size=7, calls=0.3):
        self.chance, self.size, self.calls = Random(seed), size, calls
        texts = ["main"] + ["f", "g"][:self.chance.randrange(3)]
        self.takes = {text: tuple(self.some_kinds(3)) for text in texts}

    def some_kinds(self, most):
        return [self.chance.choice([NUM, NUM, TRUTH, WIDE]) for place in range(self.chance.randrange(most + 1))]

    def value(self, kind):
        if kind == WIDE:
            return (self.value(NUM), self.value(NUM))
        return self.chance.choice([True, False]) if kind == TRUTH else self.chance.choice([0, 1, 2, -5, 10 ** 30])

    def inputs(self):
        return [self.value(kind) for kind in self.takes["main"]]

    def code(self):
        return Code({text: self.function(text) for text in self.takes})

    def shapes(self):
        """For each block the word of its end and the blocks to which its edges lead; all are come to."""
        count = self.chance.randrange(1, self.size + 1)
        sorts = {"jump": 1, "branch": 2, "back": 0, "raise": 0, "risk": 1, "catch": 2}
        found = []
        for number in range(count):
            sort = self.chance.choice(["jump"] * 4 + ["branch"] * 5 + ["back", "raise", "risk", "catch", "catch"])
            sort = sort if count > 1 else "back"
            found.append((sort, [self.chance.randrange(1, count) for edge in range(sorts[sort])]))
        left = [0]
        for number in left:
            left.extend(sorted(set(found[number][1]) - set(left)))
        left.sort()
        return [(found[number][0], [left.index(to) for to in found[number][1]]) for number in left]

    def function(self, text):
        shapes = self.shapes()
        self.fresh = self.chance.sample(range(1000), 999)
        self.kinds, self.blocks, self.text = {}, {}, text
        results = {to[0] for sort, to in shapes if sort in ("risk", "catch")}
        params = [self.takes[text]]
        params += [[NUM] * (number in results) + self.some_kinds(3) for number in range(1, len(shapes))]
        self.params = [[self.name_of(kind) for kind in kinds] for kinds in params]
        ends = [Branch(YES, (to[0], ()), (to[-1], ())) if to else Raise("oops") for sort, to in shapes]
        self.above = rulers(Function((), NUM, {}, [Block((), (), end) for end in ends]))
        self.rounds = {one for number, (sort, to) in enumerate(shapes) for one in to if one <= number}
        self.rows = {}
        for number in sorted(range(len(shapes)), key=lambda one: len(self.above[one])):
            self.rows[number] = self.some_rows(number)
        self.liked = {name: self.chance.choice(self.given_to([one for one in self.above[number] if one != number],
                                                             self.kinds[name]))
                      for number in range(1, len(shapes)) for name in self.params[number]}
        blocks = [Block(self.params[number], self.rows[number], self.end(number, *shape))
                  for number, shape in enumerate(shapes)]
        return Function(self.takes[text], NUM, self.kinds, blocks)

    def name_of(self, kind):
        name = self.fresh.pop()
        self.kinds[name] = kind
        return name

    def given_to(self, numbers, kind, more=()):
        names = [name for number in numbers for name in self.params[number]]
        names += [row.name for number in numbers for row in self.rows.get(number, [])] + [row.name for row in more]
        some = [n(name) for name in names if name is not None and self.kinds[name] == kind]
        return some * 2 + self.CONSTANTS.get(kind, [])

    def some_rows(self, number):
        rows = [Row(self.name_of(WIDE), "make", WIDE, [num(1), num(2)])] if number == 0 else []
        rows += [TICK] * (number in self.rounds or self.chance.random() < 0.2)
        for place in range(self.chance.randrange(5)):
            if self.chance.random() < 0.15:
                rows.append(noted(self.chance.choice(self.given_to(self.above[number], NUM, rows))))
                continue
            lines = [line for one in self.above[number] for line in self.rows.get(one, rows) if line.name is not None]
            if lines and self.chance.random() < 0.25:
                line = self.chance.choice(lines)
                rows.append(Row(self.name_of(self.kinds[line.name]), line.op, line.extra, line.operands))
                continue
            op, extra, kinds, kind = self.chance.choice(self.OPS)
            operands = [self.chance.choice(self.given_to(self.above[number], one, rows)) for one in kinds]
            rows.append(Row(self.name_of(kind), op, extra, operands))
        return rows

    def operand(self, number, kind):
        return self.chance.choice(self.given_to(self.above[number], kind))

    def edge(self, number, to, handed=False):
        args = []
        for name in self.params[to][handed:]:
            some = [self.liked[name]] * 3 + [n(name)] * 3 * (to in self.above[number])
            args.append(self.chance.choice(some + [self.operand(number, self.kinds[name])]))
        return (to, tuple(args))

    def end(self, number, sort, to):
        if sort == "jump":
            return Jump(self.edge(number, to[0]))
        if sort == "branch":
            return Branch(self.operand(number, TRUTH), self.edge(number, to[0]), self.edge(number, to[1]))
        if sort in ("back", "raise"):
            return Back(self.operand(number, NUM)) if sort == "back" else Raise("oops")
        op, kinds, fault = self.chance.choice(self.RISKS)
        extra, fault = None, self.chance.choice([fault, "oops"])
        if self.chance.random() < self.calls:
            op, extra = "call", self.chance.choice(sorted(self.takes))
            kinds = self.takes[extra]
        asked = [self.operand(number, kind) for kind in kinds]
        catches = [(fault, self.edge(number, to[1]))] if sort == "catch" else []
        return Risk(op, extra, asked, self.edge(number, to[0], True), catches)


def put_end(end, of_edge, of_operand):
    """An end, told as a tuple, with its edges, and what it reads itself, put otherwise."""
    if end[0] == "jump":
        return ("jump", of_edge(end[1], False))
    if end[0] == "branch":
        return ("branch", of_operand(end[1]), of_edge(end[2], False), of_edge(end[3], False))
    if end[0] == "back":
        return ("back", of_operand(end[1]))
    if end[0] == "raise":
        return end
    catches = tuple((fault, of_edge(way, False)) for fault, way in end[5])
    return end[:3] + (tuple(of_operand(operand) for operand in end[3]), of_edge(end[4], True), catches)


def code_of(told):
    """The code that tells this."""
    ends = {"jump": Jump, "branch": Branch, "back": Back, "raise": Raise, "risk": Risk}
    functions = {}
    for text, (takes, gives, kinds, blocks) in told:
        blocks = [Block(params, [Row(*row) for row in rows], ends[end[0]](*end[1:])) for params, rows, end in blocks]
        functions[text] = Function(takes, gives, dict(kinds), blocks)
    return Code(functions)


def otherwise(thing, chance, others):
    """The thing with one thing in it, somewhere, left out, put in, or put as one of the others."""
    if not isinstance(thing, (dict, list, tuple)) or not thing or chance.random() < 0.1:
        return chance.choice(others)
    sort = chance.randrange(8)
    if isinstance(thing, dict):
        made = dict(thing)
        key = chance.choice(list(made))
        part = made.pop(key)
        if sort > 4:
            made[key] = otherwise(part, chance, others)
        elif sort > 0:
            made[chance.choice([other for other in others if is_plain(other)])] = part
        if sort == 4:
            made.setdefault(key, part)
        return made
    made = list(thing)
    place = chance.randrange(len(made))
    if sort == 0:
        made.pop(place)
    elif sort == 1:
        made.insert(place, chance.choice(others))
    else:
        made[place] = otherwise(made[place], chance, others)
    # Now and then a list stands for a tuple, or a tuple for a list.
    return made if isinstance(thing, list) != (chance.random() < 0.02) else tuple(made)


def is_plain(thing):
    """Whether a thing can be a key of a dict."""
    return all(is_plain(part) for part in thing) if isinstance(thing, tuple) else not isinstance(thing, (list, dict))


def told_edges(blocks):
    """Of blocks, told as tuples, all edges, with whether a result is handed on ahead of the args."""
    found = []

    def kept(edge, handed):
        found.append((edge, handed))
        return edge

    for params, rows, end in blocks:
        put_end(end, kept, lambda operand: operand)
    return found


def all_handed(told):
    """Of a function that tells this: for each param of a block other than 0 what is handed to it; None is a result."""
    found = {name: [] for params, rows, end in told[3][1:] for name in params}
    for (number, args), handed in told_edges(told[3]):
        for name, operand in zip(told[3][number][0], (None,) * handed + args):
            found[name].append(operand)
    return found


def cut(told, gone, operands):
    """What a function tells without rows and params of these names, and with operands in the place of names."""
    def of(operand):
        return operands.get(operand[1], operand) if operand[0] == "name" else operand

    def of_edge(edge, handed):
        params = told[3][edge[0]][0][handed:]
        return (edge[0], tuple(of(arg) for name, arg in zip(params, edge[1]) if name not in gone))

    blocks = []
    for params, rows, end in told[3]:
        rows = tuple(row[:3] + (tuple(of(operand) for operand in row[3]),) for row in rows if row[0] not in gone)
        blocks.append((tuple(name for name in params if name not in gone), rows, put_end(end, of_edge, of)))
    kinds = tuple((name, kind) for name, kind in told[2] if name not in gone)
    return told[:2] + (kinds, tuple(blocks))


def shut(told):
    """What a function that tells this tells when it is closed up, and the new numbers of the blocks that are left."""
    blocks, left = told[3], {0}
    while True:
        more = {edge[0] for edge, handed in told_edges([blocks[number] for number in left])}
        if more <= left:
            break
        left |= more
    numbers = {number: place for place, number in enumerate(sorted(left))}
    blocks = tuple(blocks[number][:2] + (put_end(blocks[number][2], lambda edge, handed: (numbers[edge[0]], edge[1]),
                                                 lambda operand: operand),) for number in numbers)
    given = {name for params, rows, end in blocks for name in list(params) + [row[0] for row in rows]}
    return told[:2] + (tuple((name, kind) for name, kind in told[2] if name in given), blocks), numbers


def own_sheet(told):
    """The sheet by which a function that tells this is its own behind."""
    return ({number: number for number in range(len(told[3]))}, {name: n(name) for name, kind in told[2]})


def settled(thing):
    """As shown, but equal for dicts that have the same in another order."""
    if isinstance(thing, dict):
        return "{" + ", ".join(sorted(f"{shown(key)}: {settled(held)}" for key, held in thing.items())) + "}"
    if isinstance(thing, (list, tuple)):
        return thing.__class__.__name__ + "(" + ", ".join(settled(part) for part in thing) + ")"
    return shown(thing)


def given_at(function, number, kind):
    """The operands of names of this kind that are given at the end of a block."""
    names = [name for one in rulers(function)[number] for name in function.blocks[one].given()]
    return [n(name) for name in names if function.kinds[name] == kind]


class Tried(unittest.TestCase):
    """What a rewriting tells of a code, looked at from all sides."""

    # The class of the rewriting, and reasons of which none can stand in for its own ones; None where it has none.
    rewriting, without = None, None
    # Whether it does all at once: asked of what is behind, it changes nothing.
    at_once = True

    def wanted(self, function):
        """By a second reading: what the function behind tells, and its sheet; None where nothing changes."""
        raise NotImplementedError

    def all_wanted(self, code):
        """Of a whole code: what the code behind tells, and the paper; None where nothing changes."""
        wanted = {text: self.wanted(function) for text, function in code.functions.items()}
        if not any(wanted.values()):
            return None
        for text, function in code.functions.items():
            wanted[text] = wanted[text] or (function.told(), own_sheet(function.told()))
        return (tuple((text, wanted[text][0]) for text in sorted(wanted)), {text: wanted[text][1] for text in wanted})

    def is_needed(self, code, paper):
        """Whether the paper needs the rewriting's own reasons."""
        return self.without is not None

    def comes(self, code):
        """The code behind; None where nothing changes."""
        need_fit(code)
        kept = shown(code.told())
        made = self.rewriting().tried(code)
        self.assertEqual(shown(code.told()), kept)
        wanted = self.all_wanted(code)
        if made is None:
            self.assertIsNone(wanted)
            return None
        self.assertIs(made.__class__, tuple)
        behind, paper = made
        need_fit(behind)
        self.assertEqual(shown(behind.told()), shown(wanted[0]))
        self.assertEqual(settled(paper), settled(wanted[1]))
        self.assertNotEqual(behind.told(), code.told())
        self.assertTrue(self.rewriting().holds(code, behind, paper))
        if self.is_needed(code, paper):
            self.assertFalse(Walk(self.without).lets_by(code, behind, paper))
        self.assertLess(measure(behind), measure(code))
        if self.at_once:
            self.assertIsNone(self.rewriting().tried(behind))
        return behind

    def becomes(self, ahead, behind):
        need_fit(behind)
        self.assertEqual(shown(self.comes(ahead).told()), shown(behind.told()))

    def stays(self, code):
        self.assertIsNone(self.comes(code))

    def runs_alike(self, ahead, behind, inputs, budgets=(0, 1, 2, 5, 30)):
        for budget in budgets:
            one, other = run_blocks(ahead, inputs, budget), run_blocks(behind, inputs, budget)
            self.assertEqual(shown(one.seen()), shown(other.seen()), (inputs, budget))
            self.assertLessEqual(other.steps, behind.width() * (other.took + 1))

    def changes_of_sown(self, count):
        """How many codes were changed, of programs by chance that are made rougher; what is seen is the same."""
        changes = 0
        for seed in range(count):
            sower = Sower(seed, size=60)
            ahead = Rougher(sown_code(sower), seed, seed % 6).ahead
            with self.subTest(seed=seed):
                behind = self.comes(ahead)
                changes += behind is not None
                takes = next(head[1] for head in sower.heads if head[0] == "main")
                for time in range(2 if behind else 0):
                    self.runs_alike(ahead, behind, [sower.value(kind) for text, kind in takes])
        return changes

    def changes_of_drawn(self, count, **how):
        changes = 0
        for seed in range(count):
            drawer = Drawer(seed, **how)
            ahead = drawer.code()
            with self.subTest(seed=seed):
                behind = self.comes(ahead)
                changes += behind is not None
                for time in range(2 if behind else 0):
                    self.runs_alike(ahead, behind, drawer.inputs())
        return changes
