"""The least sets of looks that are closed by a table, found hop by hop."""

from nevergoback.joins import end_of, joined_orders, start_of


def next_looks(table):
    """The looks of the table, in a list for each standing and order of numbers with which they start."""
    nexts = {}
    for look in table:
        nexts.setdefault(start_of(look), []).append(look)
    return nexts


def later_looks(table):
    """The same for packets on the way: a node may go on before it hands on."""
    nexts = {}
    for look in table:
        standing, order = start_of(look)
        for earlier in range(standing + 1):
            nexts.setdefault((earlier, order), []).append(look)
    return nexts


def orders_of(kept, first, second):
    """The orders to which two orders join: worked out but once, for looks of all standings."""
    if (first, second) not in kept:
        kept[(first, second)] = joined_orders(first, second)
    return kept[(first, second)]


def one_hop_more(steps, nexts, known, kept):
    """The steps with one hop more than these to looks that are not known yet; they are known from then on.

    A step is a pair of a look and a chain to it; nexts tells the looks that may come behind a look, by its end; kept
    are the orders to which two orders join, as far as they were worked out.
    """
    found = []
    for look, chain in steps:
        for hop in nexts.get(end_of(look), []):
            for order in orders_of(kept, look[2], hop[2]):
                new = (look[0], hop[1], order)
                if new not in known:
                    known[new] = True
                    found.append((new, chain + (hop,)))
    return found


def grown(firsts, nexts, kept):
    """The least set with the first looks and, with each of its looks, all those to which it joins with a next one.

    The first looks are told as steps, and are different ones; kept is as for one hop more. Yields a step for each look
    of the set, the shorter chains first.
    """
    known = {step[0]: True for step in firsts}
    steps = firsts
    while steps:
        for step in steps:
            yield step
        steps = one_hop_more(steps, nexts, known, kept)
