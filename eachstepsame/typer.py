"""Names and kinds: a program is looked at, and told with all its kinds."""

from eachstepsame.errors import NoFit, NoMain, NoName, Twice
from eachstepsame.kinds import NUM, TRUTH
from eachstepsame.trees import counted, parts_in

# By the sign: the operation, the kind that is asked of each part, and the kind that comes.
TWO = {
    "+": ("add", ("num",), ("num",)),
    "-": ("sub", ("num",), ("num",)),
    "*": ("mul", ("num",), ("num",)),
    "/": ("div", ("num",), ("num",)),
    "mod": ("mod", ("num",), ("num",)),
    "<": ("less", ("num",), ("truth",)),
    "=": ("same", ("num",), ("truth",)),
    "and": ("and", ("truth",), ("truth",)),
    "or": ("or", ("truth",), ("truth",)),
}
ONE = {
    "-": ("neg", ("num",), ("num",)),
    "not": ("not", ("truth",), ("truth",)),
}


class Typed:
    def __init__(self, functions):
        self.functions = dict(functions)
        # The field is a dict that its reader may empty; the form itself never changes.
        self.kept_functions = dict(functions)

    def function_named(self, name):
        return self.kept_functions[name]


def typed(program):
    heads = Heads(program)
    functions = {}
    for function in program[1]:
        takes = tuple([(take, heads.told_kind(kind)) for take, kind in function[2]])
        rows = Body(heads, function[3]).told_rows_of(function)
        functions[function[1]] = (takes, heads.told_kind(function[3]), rows)
    return Typed(functions)


# By name, of each record its place and fields, of each function its place, takes and what it gives.
class Heads:
    def __init__(self, program):
        self.records = {}
        self.functions = {}
        place = 0
        for name, fields in program[0]:
            need_new(name, self.records, place)
            need_unlike(fields, place)
            self.records[name] = (place, fields)
            place += 1
        for function in program[1]:
            self.look_at_function(function, place)
            place += counted(function)
        if "main" not in self.functions:
            raise NoMain()

    def look_at_function(self, function, place):
        need_new(function[1], self.functions, place)
        there = {}
        for take, kind in function[2]:
            self.need_record(kind, place)
            need_new(take, there, place)
            there[take] = True
        self.need_record(function[3], place)
        self.functions[function[1]] = (place, function[2], function[3])

    def need_record(self, kind, place):
        if kind[0] == "named" and kind[1] not in self.records:
            raise NoName(kind[1], place)

    def told_kind(self, kind):
        if kind[0] != "named":
            return kind
        return ("record", tuple([field[1] for field in self.fields_of(kind)]))

    def fields_of(self, kind):
        return self.records[kind[1]][1]

    def field_number(self, kind, name, place):
        for number, field in enumerate(self.fields_of(kind)):
            if field[0] == name:
                return number
        raise NoName(name, place)


# While a body is looked at, an expression is a tuple: what is told of it, its kind as the tree tells kinds, and its
# place. Records stay named in these kinds, as two records with like fields are of unlike kinds.
class Body:
    def __init__(self, heads, gives):
        self.heads = heads
        self.gives = gives

    def told_rows_of(self, function):
        place = self.heads.functions[function[1]][0]
        names = dict([(take, (kind, place)) for take, kind in function[2]])
        return self.look_at_rows(function[4], place + 1, names)

    def look_at_rows(self, rows, place, names):
        # What is let among these rows is gone behind them.
        there = dict(names)
        told_rows = []
        for row in rows:
            told_rows.append(self.look_at_row(row, place, there))
            place += counted(row)
        return tuple(told_rows)

    def look_at_row(self, row, place, names):
        word = row[0]
        if word == "raise":
            return row
        if word == "try":
            return self.look_at_try(row, place, names)
        if word in ("if", "while"):
            return self.look_at_tested(row, place, names)
        parts = self.look_at_parts(row, place, names)
        if word == "let":
            return self.look_at_let(row, place, names, parts[0])
        if word in ("set", "setat", "setfield"):
            return self.look_at_set(row, place, names, parts)
        if word == "log" and parts[0][1] not in (NUM, TRUTH):
            raise NoFit(place, parts[0][2])
        if word == "return":
            need_kind(parts[0], self.gives, place)
        return (word, parts[0][0])

    def look_at_try(self, row, place, names):
        rows = self.look_at_rows(row[1], place + 1, names)
        place += 1 + counted_all(row[1])
        catches = []
        for fault, caught in row[2]:
            catches.append((fault, self.look_at_rows(caught, place, names)))
            place += counted_all(caught)
        return ("try", rows, tuple(catches))

    def look_at_tested(self, row, place, names):
        test = self.look_at(row[1], place + 1, names)
        beneath = place + 1 + counted(row[1])
        sides = []
        for rows in row[2:]:
            sides.append(self.look_at_rows(rows, beneath, names))
            beneath += counted_all(rows)
        need_kind(test, TRUTH, place)
        return (row[0], test[0]) + tuple(sides)

    def look_at_let(self, row, place, names, value):
        need_new(row[1], names, place)
        names[row[1]] = (value[1], place)
        return ("let", row[1], value[0])

    def look_at_set(self, row, place, names, parts):
        name = row[1]
        if name not in names:
            raise NoName(name, place)
        kind = names[name][0]
        told_kind = self.heads.told_kind(kind)
        # The parts of the operation that a place or a field set is told as: the name's old value goes ahead.
        whole = [(("local", name, told_kind), kind, names[name][1])] + parts
        if row[0] == "set":
            need_kind(parts[0], kind, place)
            return ("set", name, parts[0][0])
        if row[0] == "setat":
            need_sort(whole[0], "row", place)
            need_kinds(parts, NUM, place)
            return ("set", name, told_op("lay", None, whole, told_kind))
        need_sort(whole[0], "named", place)
        number = self.heads.field_number(kind, row[2], place)
        need_kind(parts[0], self.heads.fields_of(kind)[number][1], place)
        return ("set", name, told_op("put", number, whole, told_kind))

    def look_at_parts(self, node, place, names):
        parts = []
        beneath = place + 1
        for part in parts_in(node):
            parts.append(self.look_at(part, beneath, names))
            beneath += counted(part)
        return parts

    def look_at(self, node, place, names):
        parts = self.look_at_parts(node, place, names)
        word = node[0]
        if word in ("num", "truth"):
            return (("const", node), (word,), place)
        if word == "name":
            return self.look_at_name(node[1], place, names)
        if word == "call":
            return self.look_at_call(node[1], place, parts)
        if word == "new":
            return self.look_at_new(node[1], place, parts)
        if word == "field":
            return self.look_at_field(node[2], place, parts)
        if word == "row":
            need_kinds(parts, NUM, place)
            kind = ("row", len(parts))
            return (told_op("make", kind, parts, kind), kind, place)
        if word == "index":
            need_sort(parts[0], "row", place)
            need_kind(parts[1], NUM, place)
            return (told_op("pick", None, parts, NUM), NUM, place)
        sign = TWO[node[1]] if word == "two" else ONE[node[1]]
        need_kinds(parts, sign[1], place)
        return (told_op(sign[0], None, parts, sign[2]), sign[2], place)

    def look_at_name(self, name, place, names):
        if name not in names:
            raise NoName(name, place)
        kind = names[name][0]
        return (("local", name, self.heads.told_kind(kind)), kind, place)

    def look_at_call(self, name, place, parts):
        if name not in self.heads.functions:
            raise NoName(name, place)
        head = self.heads.functions[name]
        need_all(parts, head[1], head[0], place)
        return (("call", name, told_parts(parts), self.heads.told_kind(head[2])), head[2], place)

    def look_at_new(self, name, place, parts):
        if name not in self.heads.records:
            raise NoName(name, place)
        head = self.heads.records[name]
        need_all(parts, head[1], head[0], place)
        kind = ("named", name)
        told_kind = self.heads.told_kind(kind)
        return (told_op("make", told_kind, parts, told_kind), kind, place)

    def look_at_field(self, name, place, parts):
        need_sort(parts[0], "named", place)
        number = self.heads.field_number(parts[0][1], name, place)
        kind = self.heads.fields_of(parts[0][1])[number][1]
        return (told_op("get", number, parts, kind), kind, place)


def told_op(op, extra, parts, kind):
    return ("op", op, extra, told_parts(parts), kind)


def told_parts(parts):
    return tuple([part[0] for part in parts])


def counted_all(rows):
    return sum([counted(row) for row in rows])


def need_new(name, there, place):
    if name in there:
        raise Twice(name, place)


def need_unlike(fields, place):
    there = {}
    for field in fields:
        need_new(field[0], there, place)
        there[field[0]] = True


def need_kind(part, kind, place):
    if part[1] != kind:
        raise NoFit(place, part[2])


def need_kinds(parts, kind, place):
    for part in parts:
        need_kind(part, kind, place)


def need_sort(part, word, place):
    if part[1][0] != word:
        raise NoFit(place, part[2])


def need_all(parts, wanted, origin, place):
    if len(parts) != len(wanted):
        raise NoFit(origin, place)
    for part, want in zip(parts, wanted):
        need_kind(part, want[1], place)
