"""What all rewritings share, and the paper by which a code is its own behind."""

from eachstepsame.blocks import Code
from eachstepsame.fits import given_in
from eachstepsame.walk import Walk


def same_paper(code):
    return dict([(name, same_sheet(code.function_named(name))) for name in code.names()])


# The sheet of a function that stays as it is.
def same_sheet(function):
    partners = dict([(number, number) for number in range(len(function.blocks))])
    return (partners, dict([(name, ("name", name)) for name in given_in(function)]))


# One that stands under it tells its title, the reasons of its checker, and of a function what comes of it: a tuple
# (function, sheet), or None where nothing changes.
class Rewriting:
    def tried(self, code):
        functions = {}
        paper = {}
        changes = False
        for name in code.names():
            function = code.function_named(name)
            made = self.rewritten(function)
            if made is None:
                # Made anew, so that the form behind shares no dict with the one ahead.
                made = (function.with_blocks(function.blocks), same_sheet(function))
            else:
                changes = True
            functions[name] = made[0]
            paper[name] = made[1]
        return (Code(functions), paper) if changes else None

    def holds(self, ahead, behind, paper):
        return Walk(self.needed_reasons()).lets_by(ahead, behind, paper)
