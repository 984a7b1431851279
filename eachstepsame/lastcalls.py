"""Last calls: a function that would only hand on what comes of a call of itself jumps to its beginning instead."""

from eachstepsame.blocks import Block, Function, Jump, is_call
from eachstepsame.rewriting import Reframing, are_new_names, jumping, next_names
from eachstepsame.walk import is_number_of_block


class LastCalls(Reframing):
    def known_as(self):
        return "lastcalls"

    def first_paper(self, code):
        for name in code.names():
            function = code.function_named(name)
            numbers = [number for number in range(len(function.blocks)) if is_last_call(function, name, number)]
            if len(numbers) > 0:
                return (name, numbers, next_names(function, len(function.takes)))
        return None

    def is_paper(self, code, thing):
        if not isinstance(thing, tuple) or len(thing) != 3 or thing[0] not in code.names():
            return False
        function = code.function_named(thing[0])
        return are_last_calls(thing[1], function, thing[0]) and are_told_takes(thing[2], function)

    def reframed(self, code, paper):
        function = code.function_named(paper[0])
        count = len(function.blocks)
        blocks = list(function.blocks)
        for number in paper[1]:
            blocks[number] = jumping(blocks[number], (count, blocks[number].end.asked))
        blocks.append(blocks[0])
        blocks[0] = Block(paper[2], [], Jump((count, tuple([("name", name) for name in paper[2]]))))
        kinds = dict(function.kept_kinds)
        kinds.update(dict(zip(paper[2], function.takes)))
        return Function(function.takes, function.gives, kinds, blocks)


def is_last_call(function, name, number):
    end = function.blocks[number].end
    if not is_call(end) or end.extra != name or len(end.catches) > 0:
        return False
    following = function.blocks[end.edge[0]]
    return len(following.rows) == 0 and following.end.told() == ("back", ("name", following.params[0]))


def are_last_calls(thing, function, name):
    if not isinstance(thing, list) or len(thing) == 0:
        return False
    if not all([is_number_of_block(one, function) and is_last_call(function, name, one) for one in thing]):
        return False
    return thing == sorted(set(thing))


def are_told_takes(thing, function):
    return isinstance(thing, list) and len(thing) == len(function.takes) and are_new_names(thing, function)
