"""What all rewritings share, and the paper by which a code is its own behind."""

from eachstepsame.blocks import Block, Code, Jump, Row
from eachstepsame.fits import closed_up, given_in, is_fit
from eachstepsame.kinds import is_whole
from eachstepsame.walk import Walk


def same_paper(code):
    return dict([(name, same_sheet(code.function_named(name))) for name in code.names()])


# The sheet of a function that stays as it is.
def same_sheet(function):
    partners = dict([(number, number) for number in range(len(function.blocks))])
    return (partners, dict([(name, ("name", name)) for name in given_in(function)]))


# A function that stays, made anew: so the form behind shares no dict with the one ahead.
def anew(function):
    return function.with_blocks(function.blocks)


# Of each param to which edges lead all that they hand to it; None stands for a result.
def handed_on(function):
    found = {}
    for block in function.blocks:
        for edge, with_result in block.end.edges():
            operands = ([None] if with_result else []) + list(edge[1])
            for name, operand in zip(function.blocks[edge[0]].params, operands):
                found.setdefault(name, []).append(operand)
    return found


# The function without the rows and params of these names, and without what is handed to these params; elsewhere names
# are put as the operands that are told for them.
def without(function, gone, operands):
    blocks = []
    for block in function.blocks:
        params = [name for name in block.params if name not in gone]
        rows = [row.moved(operands, {}) for row in block.rows if row.name not in gone]
        edges = [edge_without(function, edge, with_result, gone) for edge, with_result in block.end.edges()]
        blocks.append(Block(params, rows, block.end.with_edges(edges).moved(operands, {})))
    return function.with_blocks(blocks)


# A param to which a result is handed is never gone, so only args are left out.
def edge_without(function, edge, with_result, gone):
    params = function.blocks[edge[0]].params[1 if with_result else 0:]
    return (edge[0], tuple([operand for name, operand in zip(params, edge[1]) if name not in gone]))


# What comes of a function in which operands stand where the names that they are told for stood, which are gone.
def put_instead(function, operands):
    if len(operands) == 0:
        return None
    sheet = same_sheet(function)
    sheet[1].update(operands)
    return (without(function, operands, operands), sheet)


# The next numbers, so many, that are no names of the function.
def next_names(function, count):
    begin = max(function.kept_kinds, default=-1) + 1
    return list(range(begin, begin + count))


# Whether these things, of whatever sorts, are numbers that may be given as names beside those of the function.
def are_new_names(things, function):
    if not all([is_whole(thing) and thing >= 0 and thing not in function.kept_kinds for thing in things]):
        return False
    return len(set(things)) == len(things)


# The block of a call, with its tick and a jump in the place of the call.
def jumping(block, edge):
    return Block(block.params, block.rows + (Row(None, "tick", None, ()),), Jump(edge))


# One that stands under it tells its title, the reasons of its checker, and of a function what comes of it: a tuple
# (function, sheet), or None where nothing changes.
class Rewriting:
    def tried(self, code):
        functions = {}
        paper = {}
        changes = False
        for name in code.names():
            function = code.function_named(name)
            made = self.rewritten(function)
            if made is None:
                made = (anew(function), same_sheet(function))
            else:
                changes = True
            functions[name] = made[0]
            paper[name] = made[1]
        return (Code(functions), paper) if changes else None

    def holds(self, ahead, behind, paper):
        return Walk(self.needed_reasons()).lets_by(ahead, behind, paper)


# A rewriting of frames, whose checker does by the paper what was done. One that stands under it tells its title, the
# paper by which it changes a code, or None, whether a thing is a paper for a code, and the function that comes by a
# paper, the name of which is the paper's first part.
class Reframing(Rewriting):
    def tried(self, code):
        paper = self.first_paper(code)
        return None if paper is None else (self.built(code, paper), paper)

    def holds(self, ahead, behind, paper):
        if not is_fit(ahead) or not is_fit(behind) or not self.is_paper(ahead, paper):
            return False
        return self.built(ahead, paper).told() == behind.told()

    def built(self, code, paper):
        functions = dict([(name, anew(code.function_named(name))) for name in code.names()])
        functions[paper[0]] = closed_up(self.reframed(code, paper))[0]
        return Code(functions)
