"""Programs as trees: names, and the nodes beneath a node."""

LETTERS = "abcdefghijklmnopqrstuvwxyz"


def is_name(thing):
    if not isinstance(thing, str) or not 1 <= len(thing) <= 8:
        return False
    return all([sign in LETTERS for sign in thing])


def parts_in(node):
    word = node[0]
    if word in ("num", "truth", "name", "raise"):
        return []
    if word in ("log", "do", "return", "field"):
        return [node[1]]
    if word in ("one", "let", "set"):
        return [node[2]]
    if word == "setfield":
        return [node[3]]
    if word == "index":
        return [node[1], node[2]]
    if word in ("two", "setat"):
        return [node[2], node[3]]
    return parts_in_tuples(node)


def parts_in_tuples(node):
    word = node[0]
    if word == "row":
        return list(node[1])
    if word in ("call", "new"):
        return list(node[2])
    if word == "fun":
        return list(node[4])
    if word == "while":
        return [node[1]] + list(node[2])
    if word == "if":
        return [node[1]] + list(node[2]) + list(node[3])
    return parts_in_try(node)


def parts_in_try(node):
    parts = list(node[1])
    # A catch is no node itself: its rows stand right beneath the try.
    for catch in node[2]:
        parts.extend(catch[1])
    return parts


def counted(node):
    # A pile of its own, so that no depth of a tree is too deep.
    waiting = [node]
    count = 0
    while len(waiting) > 0:
        parts = parts_in(waiting.pop())
        waiting.extend(parts)
        count += 1
    return count
