"""Stage 3: to which looks two looks join, when the second one begins where the first one ends."""

from nevergoback.orders import order_of
from nevergoback.placing import placed


def start_of(look):
    """The standing of the look's first node and the order of its numbers."""
    return (look[0], order_of(look[2][:len(look[2]) // 2]))


def end_of(look):
    """The standing of the look's second node and the order of its numbers."""
    return (look[1], order_of(look[2][len(look[2]) // 2:]))


def fits(one, other):
    """Whether two looks join to any."""
    return end_of(one) == start_of(other)


def _seats(ranks, inner):
    """Where each of the different ranks, ascending, is among those of the middle node: odd on one, even beside them."""
    steps = sorted(set(inner))
    return [2 * len([step for step in steps if step < rank]) + (1 if rank in inner else 0)
            for rank in sorted(set(ranks))]


def _merged(firsts, lasts, rank):
    """All ways to rank two ascending rows of seats together, from this rank on: pairs of rows of ranks."""
    if not firsts or not lasts:
        return [(list(range(rank, rank + len(firsts))), list(range(rank, rank + len(lasts))))]
    one, other = firsts[0], lasts[0]
    # On one number of the middle node both are the same; beside all its numbers nothing is known of them.
    free = one == other and one % 2 == 0
    found = []
    if one < other or free:
        found.extend([([rank] + ups, downs) for ups, downs in _merged(firsts[1:], lasts, rank + 1)])
    if other < one or free:
        found.extend([(ups, [rank] + downs) for ups, downs in _merged(firsts, lasts[1:], rank + 1)])
    if one == other:
        found.extend([([rank] + ups, [rank] + downs) for ups, downs in _merged(firsts[1:], lasts[1:], rank + 1)])
    return found


def joined_orders(first, second):
    """The ascending tuple of the orders to which two orders join, the middle node having the same order in both."""
    half = len(first) // 2
    ahead, behind = first[:half], second[half:]
    rows = _merged(_seats(ahead, first[half:]), _seats(behind, second[:half]), 0)
    starts, ends = order_of(ahead), order_of(behind)
    orders = [[ups[rank] for rank in starts] + [downs[rank] for rank in ends] for ups, downs in rows]
    return tuple(sorted([tuple(order) for order in orders]))


def joined(one, other):
    """The set of looks to which two looks join."""
    if not fits(one, other):
        return ()
    return tuple([(one[0], other[1], order) for order in joined_orders(one[2], other[2])])


def middle(one, other, look):
    """Three nodes with a look to which two looks join from the first to the last one, and these two on the way."""
    return placed(3, [(0, 1, one), (1, 2, other), (0, 2, look)])
