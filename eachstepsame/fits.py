"""What is well made in the form of blocks, and what its graphs tell."""

from eachstepsame.blocks import Back, Block, Branch, Risk
from eachstepsame.errors import NoCode
from eachstepsame.kinds import NUM, TRUTH, is_constant, is_whole
from eachstepsame.ops import is_pure, is_risky, result_kind
from eachstepsame.ways import gone_through, nearest_rulers, on_rounds, ruled_spans, spans_rule


def followers(function, number):
    return sorted(set([edge[0] for edge, handed in function.blocks[number].end.edges()]))


def ways_of(function):
    return [followers(function, number) for number in range(len(function.blocks))]


def reached(function):
    if len(function.blocks) == 0:
        return []
    return sorted(gone_through(ways_of(function), 0, {}))


# The blocks to which one comes from block 0, each behind those that rule it.
def rulers_first(function):
    return gone_through(ways_of(function), 0, {})[::-1]


def rulers(function):
    found = [[] for number in range(len(function.blocks))]
    if len(function.blocks) == 0:
        return found
    ways = ways_of(function)
    nearest = nearest_rulers(ways)
    # A block's nearest ruler is gone through ahead of it.
    for number in reversed(gone_through(ways, 0, {})):
        above = [] if number == 0 else found[nearest[number]]
        found[number] = sorted(above + [number])
    return found


def given_in(function):
    found = {}
    for number, block in enumerate(function.blocks):
        for name in block.given():
            found.setdefault(name, number)
    return found


def closed_up(function):
    left = reached(function)
    numbers = dict([(number, place) for place, number in enumerate(left)])
    kept = [function.blocks[number] for number in left]
    blocks = [Block(block.params, block.rows, block.end.moved({}, numbers)) for block in kept]
    return (function.with_blocks(blocks), numbers)


def operand_kind(function, operand):
    if operand[0] == "name":
        return function.kind_of(operand[1])
    return (operand[0],) if is_constant(operand) else None


def operand_kinds(function, operands):
    return [operand_kind(function, operand) for operand in operands]


def is_fit(code):
    try:
        need_fit(code)
    except NoCode:
        return False
    return True


def need_fit(code):
    names = code.names()
    if "main" not in names:
        raise NoCode("main", 0)
    for name in names:
        number = first_block_amiss(code, code.function_named(name))
        if number is not None:
            raise NoCode(name, number)


def first_block_amiss(code, function):
    number = first_astray(function)
    if number is None:
        number = first_with_names_amiss(function)
    return first_unfit(code, function) if number is None else number


def first_astray(function):
    count = len(function.blocks)
    for number, block in enumerate(function.blocks):
        for edge, handed in block.end.edges():
            if not is_whole(edge[0]) or not 0 < edge[0] < count:
                return number
    return None


def first_with_names_amiss(function):
    if len(function.blocks) == 0 or set(given_in(function)) != set(function.kept_kinds):
        return 0
    there = {}
    for number, block in enumerate(function.blocks):
        for name in block.given():
            if name in there:
                return number
            there[name] = True
    return None


def first_unfit(code, function):
    look = Look(code, function)
    for number in range(len(function.blocks)):
        if not look.is_right(number):
            return number
    return None


# A look at a function whose edges and given names are in order, block by block.
class Look:
    def __init__(self, code, function):
        self.code = code
        self.function = function
        ways = ways_of(function)
        self.spans = ruled_spans(nearest_rulers(ways))
        self.rounds = on_rounds(without_ticks(function, ways))
        self.givers = given_in(function)

    def is_right(self, number):
        # Only blocks to which one comes have a span.
        if number not in self.spans or number in self.rounds:
            return False
        block = self.function.blocks[number]
        if number == 0 and self.kinds_of_params(0) != list(self.function.takes):
            return False
        if not all([self.row_fits(row) for row in block.rows]):
            return False
        return self.end_fits(block.end) and self.all_given(number)

    def kinds_of_params(self, number):
        return [self.function.kind_of(name) for name in self.function.blocks[number].params]

    def row_fits(self, row):
        kinds = operand_kinds(self.function, row.operands)
        if row.op == "log" or row.op == "tick":
            wanted = [[NUM], [TRUTH]] if row.op == "log" else [[]]
            return row.name is None and row.extra is None and kinds in wanted
        if row.name is None or not is_pure(row.op) or None in kinds:
            return False
        kind = result_kind(row.op, row.extra, kinds)
        return kind is not None and kind == self.function.kind_of(row.name)

    def end_fits(self, end):
        if isinstance(end, Branch) and operand_kind(self.function, end.test) != TRUTH:
            return False
        if isinstance(end, Back) and operand_kind(self.function, end.operand) != self.function.gives:
            return False
        result = None
        if isinstance(end, Risk):
            result = self.risk_kind(end)
            faults = [fault for fault, way in end.catches]
            if result is None or len(set(faults)) < len(faults):
                return False
        return all([self.edge_fits(edge, [result] if handed else []) for edge, handed in end.edges()])

    def risk_kind(self, risk):
        kinds = operand_kinds(self.function, risk.asked)
        if None in kinds:
            return None
        if risk.op == "call":
            return self.call_kind(risk.extra, kinds)
        return result_kind(risk.op, risk.extra, kinds) if is_risky(risk.op) else None

    def call_kind(self, name, kinds):
        if name not in self.code.names():
            return None
        called = self.code.function_named(name)
        return called.gives if list(called.takes) == kinds else None

    def edge_fits(self, edge, results):
        kinds = results + operand_kinds(self.function, edge[1])
        return None not in kinds and kinds == self.kinds_of_params(edge[0])

    def all_given(self, number):
        block = self.function.blocks[number]
        here = dict([(name, True) for name in block.params])
        for row in block.rows:
            if not self.given_here(row.operands, here, number):
                return False
            here[row.name] = True
        return self.given_here(block.end.every_read(), here, number)

    def given_here(self, operands, here, number):
        names = [operand[1] for operand in operands if operand[0] == "name"]
        return all([name in here or self.given_above(name, number) for name in names])

    def given_above(self, name, number):
        giver = self.givers.get(name)
        return giver is not None and giver != number and spans_rule(self.spans, giver, number)


# The graph without all edges from or to a block that has a tick row.
def without_ticks(function, ways):
    ticking = dict([(number, True) for number, block in enumerate(function.blocks) if block.ticks()])
    return [
        [] if number in ticking else [one for one in ways[number] if one not in ticking] for number in range(len(ways))
    ]
