"""The runner of the source: a typed tree is run, with a pile of its own for calls and for what is still to be done."""

from eachstepsame.errors import Fault
from eachstepsame.ops import reckoned
from eachstepsame.runs import Going, need_start
from eachstepsame.trees import parts_in

# Of the tasks that wait in a frame some are nodes, which are still to be begun; the others go on with one whose parts
# were reckoned, or with rows of which some were done.
NODES = {
    "const": True, "local": True, "op": True, "call": True, "let": True, "set": True, "if": True, "while": True,
    "log": True, "do": True, "return": True, "raise": True, "try": True,
}


def run_source(typed, inputs, budget):
    takes = typed.function_named("main")[0]
    need_start([kind for name, kind in takes], inputs, budget)
    runner = Runner(typed, budget)
    runner.begin("main", inputs)
    while runner.ending is None:
        runner.go_on()
    return runner.ended()


def source_width(typed):
    return max([counted_rows(function[2]) for function in typed.kept_functions.values()], default=0)


def counted_rows(rows):
    waiting = list(rows)
    count = 0
    while len(waiting) > 0:
        parts = typed_parts_in(waiting.pop())
        waiting.extend(parts)
        count += 1
    return count


def typed_parts_in(node):
    if node[0] in ("const", "local"):
        return []
    if node[0] == "op":
        return list(node[3])
    # Rows and calls have their parts where they have them without kinds.
    return parts_in(node)


# A call that has begun and not ended: its names' values, its waiting tasks, and values whose use is to come.
class Frame:
    def __init__(self, have, rows):
        self.have = have
        self.waiting = [("rows", rows, 0)]
        self.reckoned_parts = []

    def wait_for(self, task, parts):
        self.waiting.append(task)
        self.waiting.extend(list(reversed(parts)))

    def taken(self, count):
        return [self.reckoned_parts.pop() for place in range(count)][::-1]

    def caught_rows(self, fault):
        # Tries stand among rows alone, so no value of an expression is still to be used behind one.
        self.reckoned_parts.clear()
        while len(self.waiting) > 0:
            task = self.waiting.pop()
            if task[0] == "tried":
                for name, rows in task[1]:
                    if name == fault:
                        return rows
        return None


class Runner(Going):
    def __init__(self, typed, budget):
        Going.__init__(self, budget)
        self.program = typed
        self.frames = []

    def begin(self, name, given):
        function = self.program.function_named(name)
        have = dict([(take[0], value) for take, value in zip(function[0], given)])
        self.frames.append(Frame(have, function[2]))

    def go_on(self):
        frame = self.frames[-1]
        if len(frame.waiting) == 0:
            self.fault_comes("end")
            return
        task = frame.waiting.pop()
        if task[0] in NODES:
            self.steps += 1
            self.begin_node(frame, task)
        else:
            self.go_on_with(frame, task)

    def begin_node(self, frame, node):
        word = node[0]
        if word == "const":
            frame.reckoned_parts.append(node[1][1])
        elif word == "local":
            frame.reckoned_parts.append(frame.have[node[1]])
        elif word == "op":
            frame.wait_for(("reckon", node), node[3])
        elif word == "call":
            frame.wait_for(("enter", node), node[2])
        elif word in ("let", "set"):
            frame.wait_for(("keep", node[1]), (node[2],))
        elif word == "if":
            frame.wait_for(("choose", node), (node[1],))
        elif word == "while":
            frame.waiting.append(("ask", node))
        elif word == "log":
            frame.wait_for(("write",), (node[1],))
        elif word == "do":
            frame.wait_for(("drop",), (node[1],))
        elif word == "return":
            frame.wait_for(("leave",), (node[1],))
        elif word == "raise":
            self.fault_comes(node[1])
        else:
            frame.wait_for(("tried", node[2]), (("rows", node[1], 0),))

    def go_on_with(self, frame, task):
        word = task[0]
        if word == "rows":
            go_on_with_rows(frame, task[1], task[2])
        elif word == "reckon":
            self.reckon(frame, task[1])
        elif word == "enter":
            self.enter(task[1][1], frame.taken(len(task[1][2])))
        elif word == "ask":
            self.ask(frame, task[1])
        elif word != "tried":
            self.use(frame, task, frame.reckoned_parts.pop())

    def use(self, frame, task, value):
        word = task[0]
        if word == "keep":
            frame.have[task[1]] = value
        elif word == "choose":
            frame.waiting.append(("rows", task[1][2] if value else task[1][3], 0))
        elif word == "loop" and value:
            frame.wait_for(("ask", task[1]), (("rows", task[1][2], 0),))
        elif word == "write":
            self.write(value)
        elif word == "leave":
            self.leave(value)

    def reckon(self, frame, node):
        try:
            value = reckoned(node[1], node[2], frame.taken(len(node[3])))
        except Fault as fault:
            self.fault_comes(fault.name)
        else:
            frame.reckoned_parts.append(value)

    def enter(self, name, given):
        if self.takes_tick():
            self.begin(name, given)

    def ask(self, frame, node):
        if self.takes_tick():
            frame.wait_for(("loop", node), (node[1],))

    def leave(self, value):
        self.frames.pop()
        if len(self.frames) == 0:
            self.answer(value)
        else:
            self.frames[-1].reckoned_parts.append(value)

    def fault_comes(self, name):
        while len(self.frames) > 0:
            rows = self.frames[-1].caught_rows(name)
            if rows is not None:
                self.frames[-1].waiting.append(("rows", rows, 0))
                return
            self.frames.pop()
        self.fail(name)


def go_on_with_rows(frame, rows, place):
    # One row at a time: rows that are left early cost nothing.
    if place < len(rows):
        frame.waiting.append(("rows", rows, place + 1))
        frame.waiting.append(rows[place])
