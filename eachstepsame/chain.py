"""The chain: all forms of one program, their runs, their widths, and whether all that was told of them holds."""

from eachstepsame.allot import allotted
from eachstepsame.blockrun import run_blocks
from eachstepsame.errors import NoPass, copied
from eachstepsame.lowering import lowered
from eachstepsame.machinerun import run_machine
from eachstepsame.passes import chain, first_amiss
from eachstepsame.runs import need_start
from eachstepsame.sourcerun import run_source, source_width
from eachstepsame.table import holds
from eachstepsame.typer import typed

WORDS = ("source", "blocks", "behind", "machine")


class Forms:
    def __init__(self, program, titles, k):
        self.tree = typed(program)
        self.code_ahead = lowered(self.tree)
        chained = chain(self.code_ahead, titles)
        self.code_behind = chained[0]
        made = allotted(self.code_behind, k)
        self.machine = made[0]
        self.registers = k
        # These fields are a list and a dict that their reader may change; what is held of the forms stays.
        self.chained = copied(chained[1])
        self.table = copied(made[1])
        self.kept_steps = chained[1]
        self.kept_table = made[1]

    def run(self, word, inputs, budget):
        if word not in WORDS:
            raise NoPass(word)
        # The machine knows of no kinds, so what comes in is looked at here, for all forms alike.
        need_start([kind for name, kind in self.tree.function_named("main")[0]], inputs, budget)
        if word == "source":
            return run_source(self.tree, inputs, budget)
        if word == "blocks":
            return run_blocks(self.code_ahead, inputs, budget)
        if word == "behind":
            return run_blocks(self.code_behind, inputs, budget)
        return run_machine(self.machine, inputs, budget)

    def widths(self):
        return [source_width(self.tree), self.code_ahead.width(), self.code_behind.width(), self.machine.width()]

    def held(self):
        if first_amiss(self.code_ahead, self.kept_steps) is not None:
            return False
        return holds(self.code_behind, self.machine, self.kept_table, self.registers)
