"""Stage 6: packets that are handed on while nodes go on to the new lengths."""

from nevergoback.growth import grown, later_looks, one_hop_more
from nevergoback.looks import is_node, is_standing, look_between
from nevergoback.orders import turned
from nevergoback.placing import ends_too, numbers_for

FEWEST_VISITS = 3
MOST_VISITS = 1000


def is_visit(many, value):
    """Whether any value is a visit of a node with so many numbers."""
    if not isinstance(value, tuple) or len(value) != 2 + many:
        return False
    return is_standing(value[0]) and is_node(many, value[1:]) and value[0] <= value[1]


def hops_of(journey):
    """The looks of the hops: from each node, as it is left, to the next one, as the packet comes to it."""
    return [look_between(one[1:], (other[0],) + other[2:]) for one, other in zip(journey, journey[1:])]


def is_journey(table, value):
    """Whether any value is a journey of the table."""
    if not isinstance(value, tuple) or not FEWEST_VISITS <= len(value) <= MOST_VISITS:
        return False
    # By the empty table nobody hands on, however many numbers the nodes have.
    if not table or not all([is_visit(len(table[0][2]) // 2, visit) for visit in value]):
        return False
    told = {look: True for look in table}
    return all([look in told for look in hops_of(value)])


def comes_back(journey):
    """Whether the packet is, at the end, where it was at the beginning."""
    first, last = journey[0], journey[-1]
    return first[2:] == last[2:] and first[1] <= last[0]


def is_return(look):
    """Whether a journey comes back by this look from its first node to the last one."""
    return look[2] == turned(look[2]) and look[0] <= look[1]


def _first_steps(table):
    """The looks to which two looks of the table join, each with these two."""
    return one_hop_more([(look, (look,)) for look in table], later_looks(table), {}, {})


def journeys_set(table):
    """The set of all looks from the first node of a journey, as it is left, to the last one."""
    firsts = _first_steps(table)
    nexts = later_looks(table)
    kept = {}
    return tuple(sorted([look for look, chain in grown(firsts, nexts, kept)]))


def _visits(chain, look):
    """A journey along the looks of the chain, with this look from its first node to the last one."""
    numbers = numbers_for(len(chain) + 1, ends_too(chain, look))
    arrives = [look[0]] + [hop[1] for hop in chain]
    leaves = [hop[0] for hop in chain] + [look[1]]
    return tuple([(came, left) + told for came, left, told in zip(arrives, leaves, numbers)])


def coming_back(table):
    """A journey of fewest visits that comes back, or None."""
    firsts = _first_steps(table)
    nexts = later_looks(table)
    kept = {}
    for look, chain in grown(firsts, nexts, kept):
        if is_return(look):
            return _visits(chain, look)
    return None


def is_once(table):
    """Whether the table is passing once: no journey of it comes back."""
    return not any([is_return(look) for look in journeys_set(table)])
