"""From tree to blocks: a code is made of a typed tree, in which each name is given once."""

from eachstepsame.blocks import Back, Block, Branch, Code, Function, Jump, Raise, Risk, Row
from eachstepsame.ops import is_risky
from eachstepsame.sourcerun import typed_parts_in

# The one fault of each operation that may fault.
FAULTS = {"mul": "great", "div": "zero", "mod": "zero", "pick": "range", "lay": "range"}


def lowered(typed):
    functions = {}
    for name, function in typed.kept_functions.items():
        functions[name] = Lowering().put_function(function)
    return Code(functions)


# The names of the tree that are set in these rows, or in whatever stands in them.
def names_set(rows):
    found = {}
    waiting = list(rows)
    while len(waiting) > 0:
        node = waiting.pop()
        if node[0] == "set":
            found[node[1]] = True
        parts = typed_parts_in(node)
        waiting.extend(parts)
    return found


# A block in the making. The edges of its end, its ways, are filled in as the blocks come to which they lead.
class Draft:
    def __init__(self, params):
        self.params = params
        self.rows = []
        self.word = None
        self.about = ()
        self.ways = []

    def made_block(self):
        return Block(self.params, self.rows, self.made_end())

    def made_end(self):
        if self.word == "jump":
            return Jump(self.ways[0])
        if self.word == "branch":
            return Branch(self.about[0], self.ways[0], self.ways[1])
        if self.word == "back":
            return Back(self.about[0])
        if self.word == "raise":
            return Raise(self.about[0])
        catches = list(zip(self.about[3], self.ways[1:]))
        return Risk(self.about[0], self.about[1], self.about[2], self.ways[0], catches)


# One function on its way into blocks. What comes next goes into the open draft, by its number; or there is none, and
# loose edges wait for the block to which they shall lead: tuples (number of a draft, place among its ways, have). Where
# there is neither, nothing goes on. Have is a tuple of a number and a dict, which tells operands for names of the tree
# and is never changed, but made anew with another number: so many edges of one have are looked at as one.
class Lowering:
    def __init__(self):
        self.drafts = []
        self.kinds = {}
        self.number = None
        self.have = (0, {})
        self.have_count = 1
        self.loose = []
        # The names of the tree that are there.
        self.scope = {}
        # By its name, of each fault that some try round here catches, the loose edges to the innermost such catch.
        self.catchers = {}

    def put_function(self, function):
        takes = function[0]
        have = {}
        for name, kind in takes:
            self.scope[name] = True
            have[name] = self.new_name(kind)
        self.begin_block(list(have.values()))
        self.have_now(have)
        self.put_rows(function[2])
        if self.goes_on():
            self.need_block()
            self.close("raise", ("end",), 0)
        blocks = [draft.made_block() for draft in self.drafts]
        return Function([kind for name, kind in takes], function[1], self.kinds, blocks)

    def new_name(self, kind):
        number = len(self.kinds)
        self.kinds[number] = kind
        return ("name", number)

    def have_now(self, operands):
        self.have = (self.have_count, operands)
        self.have_count += 1

    def begin_block(self, params):
        self.number = len(self.drafts)
        self.drafts.append(Draft([param[1] for param in params]))
        self.loose = []

    # The block to which all loose edges lead. A name that has unlike operands on them, or is to be set on a way back to
    # this block, becomes a param; told are the names that do.
    def begin_at_loose(self, changing):
        edges = self.loose
        haves = list(dict([have for draft, place, have in edges]).values())
        have = {}
        handed = []
        for name in self.scope:
            operand = haves[0][name]
            if name in changing or any([other[name] != operand for other in haves]):
                handed.append(name)
                operand = self.new_name(self.kinds[operand[1]] if operand[0] == "name" else (operand[0],))
            have[name] = operand
        self.begin_block([have[name] for name in handed])
        self.have_now(have)
        self.tie(edges, self.number, handed)
        return handed

    def tie(self, edges, number, handed):
        made = {}
        for draft, place, have in edges:
            if have[0] not in made:
                made[have[0]] = (number, tuple([have[1][name] for name in handed]))
            self.drafts[draft].ways[place] = made[have[0]]

    # Ends the open draft; its edges, which are loose now, are told.
    def close(self, word, about, count):
        draft = self.drafts[self.number]
        draft.word = word
        draft.about = about
        draft.ways = [None for place in range(count)]
        edges = [(self.number, place, self.have) for place in range(count)]
        self.come_along([])
        return edges

    def spot(self):
        return (self.number, self.have, self.loose)

    def come_to(self, spot):
        self.number = spot[0]
        self.have = spot[1]
        self.loose = spot[2]

    def come_along(self, edges):
        self.number = None
        self.loose = edges

    def goes_on(self):
        return self.number is not None or len(self.loose) > 0

    def need_block(self):
        if self.number is None:
            self.begin_at_loose({})

    def loosened(self):
        return self.loose if self.number is None else self.close("jump", (), 1)

    # To the one place at which all these spots meet: a spot alone stays as it is, an open draft too.
    def come_together(self, spots):
        going = [spot for spot in spots if spot[0] is not None or len(spot[2]) > 0]
        if len(going) == 1:
            self.come_to(going[0])
            return
        edges = []
        for spot in going:
            self.come_to(spot)
            edges.extend(self.loosened())
        self.come_along(edges)

    def put_rows(self, rows):
        outer = self.scope
        self.scope = dict(outer)
        for row in rows:
            if self.goes_on():
                self.put_row(row)
        self.scope = outer

    def put_row(self, row):
        if row[0] == "try":
            self.put_try(row[1], row[2])
            return
        if row[0] == "while":
            self.put_loop(row[1], row[2])
            return
        self.need_block()
        if row[0] == "raise":
            self.put_raise(row[1])
        elif row[0] in ("let", "set"):
            self.put_value(row[1], self.put(row[2]))
        elif row[0] == "if":
            self.put_choice(self.put(row[1]), row[2:])
        elif row[0] == "return":
            operand = self.put(row[1])
            self.close("back", (operand,), 0)
        else:
            operand = self.put(row[1])
            if row[0] == "log":
                self.drafts[self.number].rows.append(Row(None, "log", None, (operand,)))

    def put_value(self, name, operand):
        self.scope[name] = True
        operands = dict(self.have[1])
        operands[name] = operand
        self.have_now(operands)

    def put_raise(self, fault):
        if fault in self.catchers:
            self.catchers[fault].extend(self.close("jump", (), 1))
        else:
            self.close("raise", (fault,), 0)

    def put_choice(self, test, sides):
        edges = self.close("branch", (test,), 2)
        spots = []
        for edge, rows in zip(edges, sides):
            self.come_along([edge])
            self.put_rows(rows)
            spots.append(self.spot())
        self.come_together(spots)

    def put_loop(self, test, rows):
        self.come_along(self.loosened())
        handed = self.begin_at_loose(names_set(rows))
        head = self.number
        self.drafts[head].rows.append(Row(None, "tick", None, ()))
        operand = self.put(test)
        edges = self.close("branch", (operand,), 2)
        self.come_along(edges[:1])
        self.put_rows(rows)
        self.tie(self.loosened(), head, handed)
        self.come_along(edges[1:])

    def put_try(self, rows, catches):
        outer = self.catchers
        caught = dict([(fault, []) for fault, others in catches])
        self.catchers = dict(outer)
        self.catchers.update(caught)
        self.put_rows(rows)
        self.catchers = outer
        spots = [self.spot()]
        for fault, others in catches:
            self.come_along(caught[fault])
            self.put_rows(others)
            spots.append(self.spot())
        self.come_together(spots)

    # Puts an expression; told is the operand that has its value.
    def put(self, node):
        if node[0] == "const":
            return node[1]
        if node[0] == "local":
            return self.have[1][node[1]]
        if node[0] == "call":
            return self.put_risk("call", node[1], [self.put(part) for part in node[2]], node[3])
        operands = [self.put(part) for part in node[3]]
        if is_risky(node[1]):
            return self.put_risk(node[1], node[2], operands, node[4])
        given = self.new_name(node[4])
        self.drafts[self.number].rows.append(Row(given[1], node[1], node[2], operands))
        return given

    def put_risk(self, op, extra, asked, kind):
        faults = list(self.catchers) if op == "call" else [FAULTS[op]]
        faults = [fault for fault in faults if fault in self.catchers]
        edges = self.close("risk", (op, extra, asked, faults), 1 + len(faults))
        for place, fault in enumerate(faults):
            self.catchers[fault].append(edges[place + 1])
        given = self.new_name(kind)
        self.begin_block([given])
        self.tie(edges[:1], self.number, [])
        return given
