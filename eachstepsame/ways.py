"""Ways through a graph, which is a list: for each block, by its number, the list of those to which its edges lead."""


# The blocks to which one comes from begin, but for those that are done, each behind what one came to from it.
def gone_through(ways, begin, done):
    order = []
    done[begin] = True
    pile = [(begin, 0)]
    while len(pile) > 0:
        top = pile.pop()
        number = top[0]
        if top[1] == len(ways[number]):
            order.append(number)
            continue
        pile.append((number, top[1] + 1))
        follower = ways[number][top[1]]
        if follower not in done:
            done[follower] = True
            pile.append((follower, 0))
    return order


# The graph with all its edges turned round.
def turned(ways):
    back = [[] for number in range(len(ways))]
    for number, followers in enumerate(ways):
        for follower in followers:
            back[follower].append(number)
    return back


# A dict from each block to which one comes from block 0 to the nearest other one that rules it; from 0 to 0.
def nearest_rulers(ways):
    order = gone_through(ways, 0, {})
    rank = dict([(number, place) for place, number in enumerate(order)])
    back = turned(ways)
    # Those furthest from block 0 first: so the search for what all have in common climbs each way about once.
    leading = [sorted([rank[one] for one in back[number] if one in rank]) for number in order]
    nearest = {0: 0}
    changed = True
    while changed:
        changed = False
        for place in range(len(order) - 2, -1, -1):
            ruler = common_ruler([order[one] for one in leading[place] if order[one] in nearest], nearest, rank)
            if nearest.get(order[place]) != ruler:
                nearest[order[place]] = ruler
                changed = True
    return nearest


def common_ruler(numbers, nearest, rank):
    ruler = numbers[0]
    for number in numbers:
        climbing = number
        while climbing != ruler:
            if rank[climbing] < rank[ruler]:
                climbing = nearest[climbing]
            else:
                ruler = nearest[ruler]
    return ruler


# Of each block a tuple of two numbers: the spans of the blocks that it rules lie within its own.
def ruled_spans(nearest):
    beneath = {}
    for number, ruler in nearest.items():
        if number != 0:
            beneath.setdefault(ruler, []).append(number)
    spans = {}
    pile = [(0, None)]
    count = 0
    while len(pile) > 0:
        top = pile.pop()
        if top[1] is not None:
            spans[top[0]] = (top[1], count)
            continue
        pile.append((top[0], count))
        count += 1
        pile.extend([(number, None) for number in beneath.get(top[0], [])])
    return spans


# Whether one block rules another one, to which one comes; one without a span rules none.
def spans_rule(spans, number, other):
    return number in spans and spans[number][0] <= spans[other][0] < spans[number][1]


# A dict of True for each block from which one comes back to it.
def on_rounds(ways):
    done = {}
    order = []
    for number in range(len(ways)):
        if number not in done:
            order.extend(gone_through(ways, number, done))
    back = turned(ways)
    joined = {}
    found = {}
    # Of two groups of blocks, each of whose members lead to one another, that one is met first which leads to the
    # other; so along turned edges only its own members are come to.
    for number in reversed(order):
        if number not in joined:
            group = gone_through(back, number, joined)
            if len(group) > 1 or number in ways[number]:
                found.update(dict([(one, True) for one in group]))
    return found
