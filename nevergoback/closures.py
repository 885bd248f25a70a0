"""Stage 5: the closure of a table, whether it is safe, and its shortest ring."""

from nevergoback.growth import grown, next_looks
from nevergoback.looks import is_back
from nevergoback.placing import ends_too, placed
from nevergoback.walks import ring_for


def steps_of(table, kept):
    """For each look of the closure, in their order, a pair of it and a shortest chain to it.

    Kept are the orders to which two orders join, as far as they were worked out; so are they below.
    """
    firsts = [(look, (look,)) for look in table]
    nexts = next_looks(table)
    return sorted([step for step in grown(firsts, nexts, kept)])


def closure(table):
    """The closure: the set of all looks between the first and the last node of a walk."""
    return tuple([look for look, chain in steps_of(table, {})])


def levels(table):
    """The least numbers of hops of walks to the looks of the closure, in the same order."""
    return tuple([len(chain) for look, chain in steps_of(table, {})])


def chain_to(table, look):
    """A shortest chain that a walk with this look between its ends fits, or None."""
    firsts = [(first, (first,)) for first in table]
    nexts = next_looks(table)
    kept = {}
    for found, chain in grown(firsts, nexts, kept):
        if found == look:
            return chain
    return None


def chain_back(table, kept):
    """A shortest chain to a look back, or None."""
    firsts = [(look, (look,)) for look in table]
    nexts = next_looks(table)
    for look, chain in grown(firsts, nexts, kept):
        if is_back(look):
            return chain
    return None


def is_safe(table):
    """Whether the table has no ring."""
    return chain_back(table, {}) is None


def shortest_ring(table):
    """A ring of fewest nodes, or None."""
    chain = chain_back(table, {})
    return None if chain is None else ring_for(chain)


def walk_to(table, look):
    """A walk of fewest nodes with this look between its ends, or None."""
    chain = chain_to(table, look)
    if chain is None:
        return None
    return placed(len(chain) + 1, ends_too(chain, look))
