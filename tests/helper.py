"""What the tests work out by themselves: by numbers placed for nodes, and by naive rounds."""

import functools
import itertools

GREATEST = 10 ** 40


def rank(numbers):
    """The ranks of some numbers."""
    steps = sorted(set(numbers))
    return tuple(steps.index(number) for number in numbers)


def look(u, v):
    """The look from the node u to the node v."""
    return (u[0], v[0], rank(u[1:] + v[1:]))


def hops(nodes):
    """The looks of all hops of a walk."""
    return tuple(look(u, v) for u, v in zip(nodes, nodes[1:]))


def ring_hops(nodes):
    """The looks of all hops of a ring."""
    return hops(nodes + nodes[:1])


def flip(order):
    """The order, told from the other node."""
    return order[len(order) // 2:] + order[:len(order) // 2]


def orders(many):
    """All orders of two nodes, ascending."""
    size = 2 * many
    return tuple(sorted({rank(numbers) for numbers in itertools.product(range(size), repeat=size)}))


def looks(many):
    """All looks, ascending."""
    return tuple(itertools.product((0, 1), (0, 1), orders(many)))


def back(some):
    """Whether a look leads to an alike node."""
    return some[0] == some[1] and some[2] == flip(some[2])


@functools.lru_cache(maxsize=None)
def composed(many):
    """For each two orders that join, the set of those to which they do: all numbers for three nodes are tried."""
    found = {}
    size = 3 * many
    for numbers in itertools.product(range(size), repeat=size):
        if len(set(numbers)) == max(numbers) + 1:
            u, v, w = numbers[:many], numbers[many:2 * many], numbers[2 * many:]
            found.setdefault((rank(u + v), rank(v + w)), set()).add(rank(u + w))
    return found


def many_of(table):
    """How many numbers the nodes have; 1 for the empty table."""
    return len(table[0][2]) // 2 if table else 1


def together(one, other, later=False):
    """The set of the looks to which two looks join; later: the middle node may go on in between."""
    if one[1] != other[0] and not (later and one[1] < other[0]):
        return set()
    found = composed(len(one[2]) // 2).get((one[2], other[2]), ())
    return {(one[0], other[1], order) for order in found}


def levels_of(table):
    """For each look of the closure its level, by rounds over all that are found so far."""
    levels = {some: 1 for some in table}
    level = 1
    while True:
        level += 1
        new = set()
        for one in [some for some in levels if levels[some] == level - 1]:
            for other in table:
                new |= together(one, other)
        new -= set(levels)
        if not new:
            return levels
        levels.update({some: level for some in new})


@functools.lru_cache(maxsize=5000)
def closed(table):
    """The closure, as a frozen set."""
    return frozenset(levels_of(table))


def safe(table):
    """Whether a table, in any order, has no ring."""
    return not any(back(some) for some in closed(tuple(sorted(table))))


def waiting(waits):
    """The looks of nodes that wait."""
    return tuple((0, 0, order) for order in waits)


def uncut(table, waits):
    """The looks of a table that are not cut."""
    return tuple(some for some in table if not cut(waits, some))


def calm(table, waits):
    """Whether a plan is calm."""
    return safe(waiting(waits)) and safe(uncut(table, waits))


def subsets(some):
    """All subsets of a tuple, as ascending tuples of its parts."""
    return [part for size in range(len(some) + 1) for part in itertools.combinations(some, size)]


def is_plain(value):
    """Whether a value is built of plain tuples and integers that are no booleans."""
    if type(value) is tuple:
        return all(is_plain(part) for part in value)
    return type(value) is int


def are_nodes(many, value):
    """Whether a value is a plain tuple of nodes whose numbers are from 1 to 10 ** 40."""
    return is_plain(value) and type(value) is tuple and all(
        len(node) == 1 + many and node[0] in (0, 1) and all(1 <= number <= GREATEST for number in node[1:])
        for node in value)


def goes_round(nodes, table):
    """Whether a packet can go round among some nodes, all of which are neighbours: nodes are peeled off the end."""
    left = set(range(len(nodes)))
    ways = {u: {v for v in left if v != u and look(nodes[u], nodes[v]) in table} for u in left}
    while left:
        ends = {u for u in left if not ways[u] & left}
        if not ends:
            return True
        left -= ends
    return False


def drawn_table(draw, many, most):
    """A drawn table with up to so many looks, most of which go down at one place."""
    rows = looks(many)
    table = set()
    for _ in range(draw.randint(0, most)):
        place = draw.randrange(many)
        some = draw.choice(rows)
        while draw.random() < 0.8 and not some[2][many + place] < some[2][place]:
            some = draw.choice(rows)
        table.add(some)
    return tuple(sorted(table))


def drawn_waits(draw, many, most):
    """Drawn waits of up to so many orders, most of which are for a neighbour that is nearer at some place."""
    rows = orders(many)
    place = draw.randrange(many)
    down = [order for order in rows if order[many + place] < order[place]]
    return tuple(sorted({draw.choice(rows if draw.random() < 0.1 else down) for _ in range(draw.randint(0, most))}))


def drawn_crowd(draw, many, size):
    """Drawn nodes, some alike, some with great numbers."""
    numbers = [1, 2, 3, 4, 5, 6, GREATEST - 1, GREATEST]
    return [(draw.choice((0, 1)),) + tuple(draw.choice(numbers) for _ in range(many)) for _ in range(size)]


def journeys_levels(table):
    """For each look of the journeys' set the fewest hops of such a journey, by rounds over all pairs."""
    found = {}
    latest, hop = set(table), 1
    while latest:
        hop += 1
        latest = {new for one in latest for other in table for new in together(one, other, later=True)} - set(found)
        found.update({new: hop for new in latest})
    return found


def returns(some):
    """Whether a look leads to a node with the same numbers that has a standing not less."""
    return some[2] == flip(some[2]) and some[0] <= some[1]


def visit_hops(journey):
    """The looks of all hops of a journey."""
    return tuple((u[1], v[0], rank(u[2:] + v[2:])) for u, v in zip(journey, journey[1:]))


def are_visits(many, value):
    """Whether a value is a plain tuple of visits whose numbers are from 1 to 10 ** 40."""
    return is_plain(value) and type(value) is tuple and all(
        len(visit) == 2 + many and visit[:2] in ((0, 0), (0, 1), (1, 1)) and
        all(1 <= number <= GREATEST for number in visit[2:]) for visit in value)


def cut(waits, some):
    """Whether one node of a look has gone on though it had to wait for the other one."""
    return some[:2] == (1, 0) and some[2] in waits or some[:2] == (0, 1) and flip(some[2]) in waits


def kind(some):
    """The kind of a look's first node."""
    return (some[0], rank(some[2][:len(some[2]) // 2]))


def distances(many, links):
    """For each name of a net its distances to the target, place by place, by rounds over all links."""
    found = {name: [None] * many for link in links for name in link[:2] if name is not None}
    for place in range(many):
        changed = True
        while changed:
            changed = False
            for one, other, lengths in links:
                for near, far in ((one, other), (other, one)):
                    start = 0 if near is None else found[near][place]
                    if far is not None and start is not None:
                        way = start + lengths[place]
                        if found[far][place] is None or way < found[far][place]:
                            found[far][place] = way
                            changed = True
    return {name: tuple(found[name]) for name in found}


def neighbours(links):
    """For each name of a net the set of those it has a link with, None for the target among them."""
    found = {name: set() for link in links for name in link[:2] if name is not None}
    for one, other, _ in links:
        for near, far in ((one, other), (other, one)):
            if near is not None:
                found[near].add(far)
    return found


def drawn_links(draw, many, size):
    """The links of a drawn net of so many nodes, each of which has a way to the target."""
    names = "abcdefgh"[:size]
    ends = {(names[0], None)}
    for at in range(1, size):
        ends.add((names[at], draw.choice((None,) + tuple(names[:at]))))
    for _ in range(size):
        at = draw.randrange(size)
        ends.add((names[at], draw.choice((None,) + tuple(names[:at]))))
    lengths = [1, 1, 2, 2, 3, 5, 10 ** 30]
    rows = sorted(ends, key=lambda pair: (pair[0], pair[1] or ""))
    return tuple((one, other, tuple(draw.choice(lengths) for _ in range(many))) for one, other in rows)


class Going:
    """A net in which nodes go on as their waits let them: all mixtures that come about, tried one by one."""

    def __init__(self, numbers, linked, waits):
        self.numbers = numbers
        self.linked = {name: [other for other in linked[name] if other is not None] for name in linked}
        self.at_target = {name for name in linked if None in linked[name]}
        self.waiting = {name: [other for other in self.linked[name]
                               if rank(numbers[name] + numbers[other]) in waits] for name in linked}

    def ready(self, gone):
        """The names that may go on when these have gone on."""
        return [name for name in self.numbers if name not in gone and gone.issuperset(self.waiting[name])]

    def mixtures(self):
        """All sets of names that have gone on, behind whatever goings on."""
        found = {frozenset()}
        latest = [frozenset()]
        while latest:
            gone = latest.pop()
            for name in self.ready(gone):
                new = gone | {name}
                if new not in found:
                    found.add(new)
                    latest.append(new)
        return found

    def node(self, gone, name):
        return (int(name in gone),) + self.numbers[name]

    def ways_on(self, gone, name, table):
        """The neighbours to whom a node may hand on."""
        return {other for other in self.linked[name]
                if look(self.node(gone, name), self.node(gone, other)) in table}

    def stands_still(self, gone):
        return len(gone) < len(self.numbers) and not self.ready(gone)

    def goes_round(self, gone, table):
        left = set(self.numbers)
        ways = {name: self.ways_on(gone, name, table) for name in left}
        while left:
            ends = {name for name in left if not ways[name] & left}
            if not ends:
                return True
            left -= ends
        return False

    def is_empty(self, gone, table):
        """Whether some node without a link to the target may hand on to nobody."""
        return any(name not in self.at_target and not self.ways_on(gone, name, table) for name in self.numbers)


def drawn_going(draw, many, waits, size):
    """A drawn net of so many nodes, with the distances by its links."""
    links = drawn_links(draw, many, size)
    return Going(distances(many, links), neighbours(links), waits)


def ring_going(nodes, waits):
    """The net of a ring: each node has just these numbers, and is linked to its two neighbours and the target."""
    size = len(nodes)
    linked = {at: {(at + 1) % size, (at - 1) % size, None} - {at} for at in range(size)}
    return Going({at: node[1:] for at, node in enumerate(nodes)}, linked, waits)
