"""Stage 4: walks and rings of nodes, and such for a chain of looks."""

from nevergoback.joins import fits
from nevergoback.looks import look_between
from nevergoback.placing import hops_along, placed

MOST_NODES = 1000


def looks_of(nodes):
    """The tuple of the looks of the hops from each node to the next one."""
    return tuple([look_between(u, v) for u, v in zip(nodes, nodes[1:])])


def first_hop_not(table, nodes):
    """The index of the first hop whose look is not in the table, or None."""
    told = set(table)
    for index, look in enumerate(looks_of(nodes)):
        if look not in told:
            return index
    return None


def is_ring(table, nodes):
    """Whether each node may hand on to the next one, and the last one to the first one."""
    return 2 <= len(nodes) <= MOST_NODES and first_hop_not(table, nodes + nodes[:1]) is None


def _all_fit(chain):
    """Whether each two neighbours of the chain join."""
    return all([fits(one, other) for one, other in zip(chain, chain[1:])])


def walk_for(chain):
    """A walk whose hops have these looks, or None if some two neighbours do not join."""
    if not _all_fit(chain):
        return None
    return placed(len(chain) + 1, hops_along(chain))


def ring_for(chain):
    """A ring whose hops have these looks, or None; for one look a ring of two, if it is a look back."""
    # A look that leads from one node to another and also back from there is just a look back.
    hops = chain if len(chain) > 1 else chain + chain
    if not _all_fit(hops + hops[:1]):
        return None
    size = len(hops)
    return placed(size, [(at, (at + 1) % size, look) for at, look in enumerate(hops)])
