"""The form of blocks: codes, functions, blocks, rows, ends, operands and edges."""


def image(operand, names):
    if operand[0] == "name" and operand[1] in names:
        return names[operand[1]]
    return operand


def images(operands, names):
    return tuple([image(operand, names) for operand in operands])


def edge_image(edge, names, blocks):
    return (blocks.get(edge[0], edge[0]), images(edge[1], names))


class Row:
    def __init__(self, name, op, extra, operands):
        self.name = name
        self.op = op
        self.extra = extra
        self.operands = tuple(operands)

    def told(self):
        return (self.name, self.op, self.extra, self.operands)

    def moved(self, names, given):
        return Row(given.get(self.name, self.name), self.op, self.extra, images(self.operands, names))


# What the five ends share; one that has no edges, or reads nothing itself, leaves it at that.
class End:
    def edges(self):
        return []

    # The same end with other edges, as many as it has and in their order.
    def with_edges(self, edges):
        return self

    def reads(self):
        return []

    def every_read(self):
        found = self.reads()
        for edge, handed in self.edges():
            found.extend(edge[1])
        return found


class Jump(End):
    def __init__(self, edge):
        self.edge = edge

    def told(self):
        return ("jump", self.edge)

    def moved(self, names, blocks):
        return Jump(edge_image(self.edge, names, blocks))

    def edges(self):
        return [(self.edge, False)]

    def with_edges(self, edges):
        return Jump(edges[0])


class Branch(End):
    def __init__(self, test, yes, no):
        self.test = test
        self.yes = yes
        self.no = no

    def told(self):
        return ("branch", self.test, self.yes, self.no)

    def moved(self, names, blocks):
        yes = edge_image(self.yes, names, blocks)
        return Branch(image(self.test, names), yes, edge_image(self.no, names, blocks))

    def edges(self):
        return [(self.yes, False), (self.no, False)]

    def with_edges(self, edges):
        return Branch(self.test, edges[0], edges[1])

    def reads(self):
        return [self.test]


class Back(End):
    def __init__(self, operand):
        self.operand = operand

    def told(self):
        return ("back", self.operand)

    def moved(self, names, blocks):
        return Back(image(self.operand, names))

    def reads(self):
        return [self.operand]


class Raise(End):
    def __init__(self, fault):
        self.fault = fault

    def told(self):
        return ("raise", self.fault)

    def moved(self, names, blocks):
        return Raise(self.fault)


class Risk(End):
    def __init__(self, op, extra, asked, edge, catches):
        self.op = op
        self.extra = extra
        self.asked = tuple(asked)
        self.edge = edge
        self.catches = tuple(catches)

    def told(self):
        return ("risk", self.op, self.extra, self.asked, self.edge, self.catches)

    def moved(self, names, blocks):
        edge = edge_image(self.edge, names, blocks)
        catches = [(fault, edge_image(way, names, blocks)) for fault, way in self.catches]
        return Risk(self.op, self.extra, images(self.asked, names), edge, catches)

    def edges(self):
        return [(self.edge, True)] + [(way, False) for fault, way in self.catches]

    def with_edges(self, edges):
        faults = [fault for fault, way in self.catches]
        return Risk(self.op, self.extra, self.asked, edges[0], list(zip(faults, edges[1:])))

    def reads(self):
        return list(self.asked)


def is_call(end):
    return isinstance(end, Risk) and end.op == "call"


class Block:
    def __init__(self, params, rows, end):
        self.params = tuple(params)
        self.rows = tuple(rows)
        self.end = end

    def told(self):
        return (self.params, tuple([row.told() for row in self.rows]), self.end.told())

    def given(self):
        return list(self.params) + [row.name for row in self.rows if row.name is not None]

    def ticks(self):
        return any([row.op == "tick" for row in self.rows])


class Function:
    def __init__(self, takes, gives, kinds, blocks):
        self.takes = tuple(takes)
        self.gives = gives
        self.kinds = dict(kinds)
        # The field is a dict that its reader may empty; the form itself never changes.
        self.kept_kinds = dict(kinds)
        self.blocks = tuple(blocks)

    def told(self):
        kinds = tuple(sorted(self.kept_kinds.items()))
        return (self.takes, self.gives, kinds, tuple([block.told() for block in self.blocks]))

    def width(self):
        return sum([len(block.rows) + 1 for block in self.blocks])

    def kind_of(self, name):
        return self.kept_kinds.get(name)

    # The same function with other blocks, and with kinds of just the names that these give.
    def with_blocks(self, blocks):
        names = []
        for block in blocks:
            names.extend(block.given())
        return Function(self.takes, self.gives, self.kinds_of(names), blocks)

    # A dict of the kinds of just these names, of those of them that have one.
    def kinds_of(self, names):
        return dict([(name, self.kept_kinds[name]) for name in names if name in self.kept_kinds])


class Code:
    def __init__(self, functions):
        self.functions = dict(functions)
        # As with the kinds of a function.
        self.kept_functions = dict(functions)

    def told(self):
        return tuple([(name, self.function_named(name).told()) for name in self.names()])

    def names(self):
        return sorted(self.kept_functions)

    def width(self):
        return max([function.width() for function in self.kept_functions.values()], default=0)

    def function_named(self, name):
        return self.kept_functions[name]

    def with_function(self, name, function):
        functions = dict(self.kept_functions)
        functions[name] = function
        return Code(functions)
