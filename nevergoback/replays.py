"""Stage 14: nets in which rings come about."""

from nevergoback.errors import NoRing
from nevergoback.links import LETTERS
from nevergoback.looks import look_between
from nevergoback.nets import Net
from nevergoback.walks import is_ring


def _names(count):
    """The first so many of the names "a", "b", .., "z", "aa", "ab", .."""
    names = []
    latest = [""]
    while len(names) < count:
        latest = [head + sign for head in latest for sign in LETTERS]
        names = names + latest
    return names[:count]


def _beside(size, at):
    """The indices of the neighbours of a node in a ring of so many nodes."""
    return ((at - 1) % size, (at + 1) % size)


def links_for(nodes):
    """The links of a net for a ring: its nodes have just these numbers."""
    size = len(nodes)
    names = _names(size)
    greatest = max([number for node in nodes for number in node[1:]])
    outer = [(name, None, node[1:]) for name, node in zip(names, nodes)]
    # The two nodes of a ring of two are neighbours but once.
    inner = [(names[at], names[(at + 1) % size], (greatest,) * (len(nodes[0]) - 1))
             for at in range(size if size > 2 else 1)]
    return tuple(outer + inner)


def deeds_for(waits, nodes):
    """The deeds that bring the net of these links, with these waits, to the nodes' standings, or None."""
    size = len(nodes)
    names = _names(size)
    told = {order: True for order in waits}
    waiting = [[other for other in _beside(size, at) if look_between(nodes[at], nodes[other])[2] in told]
               for at in range(size)]
    gone = [False] * size
    left = [at for at, node in enumerate(nodes) if node[0] == 1]
    deeds = []
    while left:
        ready = [at for at in left if all([gone[other] for other in waiting[at]])]
        if not ready:
            return None
        for at in ready:
            gone[at] = True
        deeds.extend([("go", names[at]) for at in ready])
        left = [at for at in left if not gone[at]]
    return tuple(deeds)


def replayed(many, table, waits, nodes):
    """The net of the ring in which these deeds are done."""
    if not is_ring(table, nodes):
        raise NoRing()
    deeds = deeds_for(waits, nodes)
    if deeds is None:
        raise NoRing()
    net = Net(many, table, waits, links_for(nodes))
    for word, name in deeds:
        net.go(name)
    return net
