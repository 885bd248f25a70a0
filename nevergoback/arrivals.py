"""Stage 8: whether a packet comes to the target, whatever is known of a node's neighbours."""

from nevergoback.joins import start_of
from nevergoback.looks import all_looks
from nevergoback.placing import placed
from nevergoback.waits import is_calm, is_cut


def kind_of(look):
    """The kind of the look's first node."""
    return start_of(look)


def kinds(many):
    """The ascending tuple of all kinds of nodes with so many numbers."""
    found = {kind_of(look): True for look in all_looks(many)}
    return tuple(sorted(found))


def leads_down(look, place):
    """Whether the look's second node has a lesser number at this place."""
    half = len(look[2]) // 2
    return look[2][half + place] < look[2][place]


def lacking(many, table, waits, kind, place):
    """The looks that the table lacks for the place to be good for the kind."""
    told = {look: True for look in table}
    return tuple([look for look in all_looks(many)
                  if leads_down(look, place) and kind_of(look) == kind
                  and look not in told and not is_cut(waits, look)])


def _lacking_rows(many, table, waits):
    """For each kind what the table lacks for it, place by place."""
    return [[lacking(many, table, waits, kind, place) for place in range(many)] for kind in kinds(many)]


def good_places(many, table, waits):
    """For each kind the ascending tuple of the places that are good for it."""
    rows = _lacking_rows(many, table, waits)
    return tuple([tuple([place for place, looks in enumerate(row) if not looks]) for row in rows])


def brings(many, table, waits):
    """Whether the plan is calm and each kind has a good place."""
    return is_calm(table, waits) and all([len(places) > 0 for places in good_places(many, table, waits)])


def empty_handed(many, table, waits):
    """A node and, for each place, a neighbour with a lesser number there to whom it may not hand on, or None."""
    for row in _lacking_rows(many, table, waits):
        if all([len(looks) > 0 for looks in row]):
            return placed(many + 1, [(0, place + 1, looks[0]) for place, looks in enumerate(row)])
    return None


def _lengths_to(first, other, own, greatest):
    """The lengths of the link from the first node to the other one, whose own place is this."""
    return tuple([number - other[1 + place] if place == own else greatest for place, number in enumerate(first[1:])])


def links_around(nodes):
    """The links of a net in which these nodes have just these numbers: the first one is linked to all others."""
    greatest = max([number for node in nodes for number in node[1:]])
    names = ("a", "b", "c")
    others = list(zip(names[1:], nodes[1:]))
    inner = [("a", name, _lengths_to(nodes[0], node, own, greatest)) for own, (name, node) in enumerate(others)]
    return tuple(inner + [(name, None, node[1:]) for name, node in others])
