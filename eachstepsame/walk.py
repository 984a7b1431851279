"""The walk: two forms of blocks and a paper are looked at, and let by where the paper shows that both do the same."""

from eachstepsame.blocks import Branch, Jump, Raise, Risk
from eachstepsame.errors import Fault
from eachstepsame.fits import given_in, is_fit, ways_of
from eachstepsame.kinds import NUM, TRUTH, is_constant, is_whole, tagged
from eachstepsame.ops import reckoned, result_kind
from eachstepsame.ways import nearest_rulers, ruled_spans, spans_rule

REASONS = ("kept", "moved", "copy", "fold", "plain", "known", "param")

NOUGHT = ("num", 0)
YES = ("truth", True)
NO = ("truth", False)

# Stands for what a risk hands on, which no operand is equal to.
RESULT = ("result",)


def plain_of(op, one, other):
    if op in ("add", "sub") and other == NOUGHT:
        return one
    if op == "add" and one == NOUGHT:
        return other
    if op in ("sub", "less", "same") and one == other:
        return {"sub": NOUGHT, "less": NO, "same": YES}[op]
    if op == "and":
        return plain_of_truths(one, other, YES, NO)
    if op == "or":
        return plain_of_truths(one, other, NO, YES)
    return None


# Of two truths one is passed over, and the other one settles it, whatever stands beside it.
def plain_of_truths(one, other, passed, settling):
    if one == settling or other == settling:
        return settling
    if one == passed:
        return other
    return one if other == passed else None


# The constant that an operation gives of constants; None where it gives none, or of other operands. It may fault.
def constant_given(op, extra, operands):
    if not all([is_constant(operand) for operand in operands]):
        return None
    if result_kind(op, extra, [(operand[0],) for operand in operands]) not in (NUM, TRUTH):
        return None
    return tagged(reckoned(op, extra, [operand[1] for operand in operands]))


# The one way on from an end that reads these operands: a tuple (edge, results that are handed on, fault), edge None
# where the function is left by the fault. None where it isn't known which way that is.
def known_way(end, reads):
    if isinstance(end, Branch) and reads[0] in (YES, NO):
        return (end.yes if reads[0] == YES else end.no, [], None)
    if not isinstance(end, Risk):
        return None
    try:
        result = constant_given(end.op, end.extra, reads)
    except Fault as fault:
        edges = [edge for caught, edge in end.catches if caught == fault.name]
        return (edges[0], [], None) if len(edges) > 0 else (None, [], fault.name)
    return None if result is None else (end.edge, [result], None)


class Walk:
    def __init__(self, reasons):
        self.reasons = tuple(reasons)

    def lets_by(self, ahead, behind, paper):
        if not is_fit(ahead) or not is_fit(behind) or ahead.names() != behind.names():
            return False
        if not isinstance(paper, dict) or len(paper) != len(ahead.names()):
            return False
        for name in ahead.names():
            one = ahead.function_named(name)
            other = behind.function_named(name)
            if one.takes != other.takes or one.gives != other.gives:
                return False
            if name not in paper or not is_sheet(paper[name], one, other):
                return False
            if not Stride(one, other, paper[name], self.reasons).holds_all():
                return False
        return True


# A sheet is what a paper has for one function.
def is_sheet(thing, ahead, behind):
    if not isinstance(thing, tuple) or len(thing) != 2:
        return False
    if not isinstance(thing[0], dict) or not isinstance(thing[1], dict):
        return False
    return are_partners(thing[0], ahead, behind) and are_images(thing[1], ahead, behind)


def are_partners(thing, ahead, behind):
    for number, partner in thing.items():
        if not is_number_of_block(number, ahead) or not is_number_of_block(partner, behind):
            return False
    return 0 in thing and thing[0] == 0 and len(set(list(thing.values()))) == len(thing)


def is_number_of_block(thing, function):
    return is_whole(thing) and 0 <= thing < len(function.blocks)


def are_images(thing, ahead, behind):
    givers = given_in(behind)
    names = given_in(ahead)
    for name, operand in thing.items():
        if not is_whole(name) or name not in names:
            return False
        if not is_constant(operand) and not is_name_among(operand, givers):
            return False
    return True


def is_name_among(thing, names):
    if not isinstance(thing, tuple) or len(thing) != 2 or thing[0] != "name":
        return False
    return is_whole(thing[1]) and thing[1] in names


# One function ahead, the one behind, and a sheet, looked at block by block.
class Stride:
    def __init__(self, ahead, behind, sheet, reasons):
        self.ahead = ahead
        self.behind = behind
        self.partners = sheet[0]
        self.imaged = sheet[1]
        self.allowed = reasons
        self.givers = given_in(behind)
        self.spans = ruled_spans(nearest_rulers(ways_of(behind)))
        self.rows_behind = {}
        for number, block in enumerate(behind.blocks):
            for row in block.rows:
                self.rows_behind[row.name] = (number, row)
        # Of each block ahead, by its number, the edges to it that are looked at.
        self.answered = {}

    def holds_all(self):
        numbers = sorted(self.partners)
        # Params are looked at last: by then all edges to their block were met.
        if not all([self.end_holds(number) for number in numbers]):
            return False
        if not all([self.rows_hold(number) for number in numbers]):
            return False
        return all([self.params_hold(number) for number in numbers])

    def pair(self, number):
        return (self.ahead.blocks[number], self.behind.blocks[self.partners[number]])

    def image_of(self, operand):
        return self.imaged.get(operand[1]) if operand[0] == "name" else operand

    def images_of(self, operands):
        return [self.image_of(operand) for operand in operands]

    def rows_hold(self, number):
        pair = self.pair(number)
        for row in pair[0].rows:
            if row.name in self.imaged and not self.row_holds(row, self.imaged[row.name], self.partners[number]):
                return False
        return self.marks_of(pair[0], True) == self.marks_of(pair[1], False)

    def row_holds(self, row, told, partner):
        operands = self.images_of(row.operands)
        if None in operands:
            return False
        if self.row_stands(row, operands, told, partner):
            return True
        if "copy" in self.allowed and row.op == "copy" and told == operands[0]:
            return True
        if "fold" in self.allowed and told == constant_given(row.op, row.extra, operands):
            return True
        return "plain" in self.allowed and len(operands) == 2 and told == plain_of(row.op, operands[0], operands[1])

    # Whether the row stands behind, in its partner, or elsewhere where moved is allowed.
    def row_stands(self, row, operands, told, partner):
        if told[0] != "name" or told[1] not in self.rows_behind:
            return False
        found = self.rows_behind[told[1]]
        if found[0] != partner and "moved" not in self.allowed:
            return False
        return (found[1].op, found[1].extra, list(found[1].operands)) == (row.op, row.extra, operands)

    # The logs and ticks of a block, with what is logged, as it is or put as its image.
    def marks_of(self, block, put_as_image):
        marks = []
        for row in block.rows:
            if row.name is None:
                marks.append((row.op, self.images_of(row.operands) if put_as_image else list(row.operands)))
        return marks

    def end_holds(self, number):
        pair = self.pair(number)
        end = pair[0].end
        other = pair[1].end
        reads = self.images_of(end.reads())
        if end_head(end) == end_head(other):
            return reads == other.reads() and self.edges_hold(end.edges(), other.edges())
        way = known_way(end, reads) if "known" in self.allowed else None
        if way is None:
            return False
        if way[0] is None:
            return isinstance(other, Raise) and other.fault == way[2]
        return isinstance(other, Jump) and self.edge_holds(way[0], way[1], other.edge, [])

    def edges_hold(self, edges, others):
        for way, other in zip(edges, others):
            results = [RESULT] if way[1] else []
            if not self.edge_holds(way[0], results, other[0], results):
                return False
        return True

    # Keeps, of an edge and its answer, the images of what the one hands on and what the other one hands on.
    def edge_holds(self, edge, results, answer, results_behind):
        images = results + self.images_of(edge[1])
        self.answered.setdefault(edge[0], []).append((images, results_behind + list(answer[1])))
        return edge[0] in self.partners and self.partners[edge[0]] == answer[0]

    def params_hold(self, number):
        pair = self.pair(number)
        others = list(pair[1].params)
        for place, name in enumerate(pair[0].params):
            if name in self.imaged and not self.param_holds(number, place, self.imaged[name], others):
                return False
        return True

    def param_holds(self, number, place, told, others):
        if number == 0:
            return told == ("name", others[place])
        answered = self.answered.get(number, [])
        if told[0] == "name" and told[1] in others:
            answer = others.index(told[1])
            return all([ahead[place] == behind[answer] for ahead, behind in answered])
        if "param" not in self.allowed or not self.stays(told, self.partners[number]):
            return False
        return all([ahead[place] == told for ahead, behind in answered])

    # Whether an operand is a constant, or a name that another block gives which rules this one behind: so it has its
    # value ahead of the edges to this block.
    def stays(self, operand, number):
        if operand[0] != "name":
            return True
        giver = self.givers[operand[1]]
        return giver != number and spans_rule(self.spans, giver, number)


# What stands in an end beside its operands and edges.
def end_head(end):
    told = end.told()
    if isinstance(end, Raise):
        return told
    if isinstance(end, Risk):
        return told[:3] + (tuple([fault for fault, edge in end.catches]),)
    return told[:1]
