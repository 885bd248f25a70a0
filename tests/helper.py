"""What the tests work out by themselves: by numbers placed for nodes, and by naive rounds."""

import functools
import itertools

GREATEST = 10 ** 40


def rank(numbers):
    """The ranks of some numbers."""
    steps = sorted(set(numbers))
    return tuple(steps.index(number) for number in numbers)


def look(u, v):
    """The look from the node u to the node v."""
    return (u[0], v[0], rank(u[1:] + v[1:]))


def hops(nodes):
    """The looks of all hops of a walk."""
    return tuple(look(u, v) for u, v in zip(nodes, nodes[1:]))


def ring_hops(nodes):
    """The looks of all hops of a ring."""
    return hops(nodes + nodes[:1])


def flip(order):
    """The order, told from the other node."""
    return order[len(order) // 2:] + order[:len(order) // 2]


def orders(many):
    """All orders of two nodes, ascending."""
    size = 2 * many
    return tuple(sorted({rank(numbers) for numbers in itertools.product(range(size), repeat=size)}))


def looks(many):
    """All looks, ascending."""
    return tuple(itertools.product((0, 1), (0, 1), orders(many)))


def back(some):
    """Whether a look leads to an alike node."""
    return some[0] == some[1] and some[2] == flip(some[2])


@functools.lru_cache(maxsize=None)
def composed(many):
    """For each two orders that join, the set of those to which they do: all numbers for three nodes are tried."""
    found = {}
    size = 3 * many
    for numbers in itertools.product(range(size), repeat=size):
        if len(set(numbers)) == max(numbers) + 1:
            u, v, w = numbers[:many], numbers[many:2 * many], numbers[2 * many:]
            found.setdefault((rank(u + v), rank(v + w)), set()).add(rank(u + w))
    return found


def many_of(table):
    """How many numbers the nodes have; 1 for the empty table."""
    return len(table[0][2]) // 2 if table else 1


def together(one, other, later=False):
    """The set of the looks to which two looks join; later: the middle node may go on in between."""
    if one[1] != other[0] and not (later and one[1] < other[0]):
        return set()
    found = composed(len(one[2]) // 2).get((one[2], other[2]), ())
    return {(one[0], other[1], order) for order in found}


def levels_of(table):
    """For each look of the closure its level, by rounds over all that are found so far."""
    levels = {some: 1 for some in table}
    level = 1
    while True:
        level += 1
        new = set()
        for one in [some for some in levels if levels[some] == level - 1]:
            for other in table:
                new |= together(one, other)
        new -= set(levels)
        if not new:
            return levels
        levels.update({some: level for some in new})


def is_plain(value):
    """Whether a value is built of plain tuples and integers that are no booleans."""
    if type(value) is tuple:
        return all(is_plain(part) for part in value)
    return type(value) is int


def are_nodes(many, value):
    """Whether a value is a plain tuple of nodes whose numbers are from 1 to 10 ** 40."""
    return is_plain(value) and type(value) is tuple and all(
        len(node) == 1 + many and node[0] in (0, 1) and all(1 <= number <= GREATEST for number in node[1:])
        for node in value)


def goes_round(nodes, table):
    """Whether a packet can go round among some nodes, all of which are neighbours: nodes are peeled off the end."""
    left = set(range(len(nodes)))
    ways = {u: {v for v in left if v != u and look(nodes[u], nodes[v]) in table} for u in left}
    while left:
        ends = {u for u in left if not ways[u] & left}
        if not ends:
            return True
        left -= ends
    return False


def drawn_table(draw, many, most):
    """A drawn table with up to so many looks, most of which go down at one place."""
    rows = looks(many)
    table = set()
    for _ in range(draw.randint(0, most)):
        place = draw.randrange(many)
        some = draw.choice(rows)
        while draw.random() < 0.8 and not some[2][many + place] < some[2][place]:
            some = draw.choice(rows)
        table.add(some)
    return tuple(sorted(table))


def drawn_crowd(draw, many, size):
    """Drawn nodes, some alike, some with great numbers."""
    numbers = [1, 2, 3, 4, 5, 6, GREATEST - 1, GREATEST]
    return [(draw.choice((0, 1)),) + tuple(draw.choice(numbers) for _ in range(many)) for _ in range(size)]
