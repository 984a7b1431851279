"""What all rewritings share, and the paper by which a code is its own behind."""

from eachstepsame.blocks import Block, Code
from eachstepsame.fits import given_in
from eachstepsame.walk import Walk


def same_paper(code):
    return dict([(name, same_sheet(code.function_named(name))) for name in code.names()])


# The sheet of a function that stays as it is.
def same_sheet(function):
    partners = dict([(number, number) for number in range(len(function.blocks))])
    return (partners, dict([(name, ("name", name)) for name in given_in(function)]))


# Of each param to which edges lead all that they hand to it; None stands for a result.
def handed_on(function):
    found = {}
    for block in function.blocks:
        for edge, with_result in block.end.edges():
            operands = ([None] if with_result else []) + list(edge[1])
            for name, operand in zip(function.blocks[edge[0]].params, operands):
                found.setdefault(name, []).append(operand)
    return found


# The function without the rows and params of these names, and without what is handed to these params; elsewhere names
# are put as the operands that are told for them.
def without(function, gone, operands):
    blocks = []
    for block in function.blocks:
        params = [name for name in block.params if name not in gone]
        rows = [row.moved(operands, {}) for row in block.rows if row.name not in gone]
        edges = [edge_without(function, edge, with_result, gone) for edge, with_result in block.end.edges()]
        blocks.append(Block(params, rows, block.end.with_edges(edges).moved(operands, {})))
    return function.with_blocks(blocks)


# A param to which a result is handed is never gone, so only args are left out.
def edge_without(function, edge, with_result, gone):
    params = function.blocks[edge[0]].params[1 if with_result else 0:]
    return (edge[0], tuple([operand for name, operand in zip(params, edge[1]) if name not in gone]))


# What comes of a function in which operands stand where the names that they are told for stood, which are gone.
def put_instead(function, operands):
    if len(operands) == 0:
        return None
    sheet = same_sheet(function)
    sheet[1].update(operands)
    return (without(function, operands, operands), sheet)


# One that stands under it tells its title, the reasons of its checker, and of a function what comes of it: a tuple
# (function, sheet), or None where nothing changes.
class Rewriting:
    def tried(self, code):
        functions = {}
        paper = {}
        changes = False
        for name in code.names():
            function = code.function_named(name)
            made = self.rewritten(function)
            if made is None:
                # Made anew, so that the form behind shares no dict with the one ahead.
                made = (function.with_blocks(function.blocks), same_sheet(function))
            else:
                changes = True
            functions[name] = made[0]
            paper[name] = made[1]
        return (Code(functions), paper) if changes else None

    def holds(self, ahead, behind, paper):
        return Walk(self.needed_reasons()).lets_by(ahead, behind, paper)
