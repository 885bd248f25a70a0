"""Stage 10: full tables, to which no look can be put without a ring."""

from nevergoback.closures import is_safe, steps_of
from nevergoback.errors import NotSafe
from nevergoback.growth import next_looks, one_hop_more
from nevergoback.looks import all_looks, is_back


def _more_steps(steps, table, look, kept):
    """The steps that come to those of a safe table's closure with this look put to it, up to the first look back.

    The look is not in the closure. Kept are the orders to which two orders join, as far as they were worked out.
    """
    known = {step[0]: True for step in steps}
    known[look] = True
    nexts = next_looks(table + (look,))
    latest = [(look, (look,))] + one_hop_more(steps, next_looks((look,)), known, kept)
    more = []
    while latest:
        for step in latest:
            more.append(step)
            if is_back(step[0]):
                return more
        latest = one_hop_more(latest, nexts, known, kept)
    return more


def _leads_back(steps):
    """Whether a look back was found: it is the last one then."""
    return is_back(steps[-1][0])


def chains_back(many, table):
    """For each look that is not in the safe table, in their order, a pair of it and a chain to a look back, or None.

    The chain is one of the table with this look, which is on it.
    """
    told = {look: True for look in table}
    kept = {}
    steps = steps_of(table, kept)
    known = {step[0]: True for step in steps}
    lacked = [look for look in all_looks(many) if look not in told]
    found = []
    for look in lacked:
        chain = None
        # What is in the closure anyway makes no ring.
        if look not in known:
            more = _more_steps(steps, table, look, kept)
            chain = more[-1][1] if _leads_back(more) else None
        found.append((look, chain))
    return found


def room(many, table):
    """The looks that are not in the safe table and can be put to it, each by itself, without a ring."""
    return tuple([look for look, chain in chains_back(many, table) if chain is None])


def is_full(many, table):
    """Whether the table is safe and no look can be put to it without a ring."""
    return is_safe(table) and room(many, table) == ()


def filled(many, table):
    """The table with each look put to it, in their order, wherever it stays safe."""
    if not is_safe(table):
        raise NotSafe()
    kept = {}
    steps = steps_of(table, kept)
    known = {step[0]: True for step in steps}
    for look in all_looks(many):
        if look not in known:
            more = _more_steps(steps, table, look, kept)
            if not _leads_back(more):
                table = table + (look,)
                steps = steps + more
                known.update({step[0]: True for step in more})
    # What is in the closure makes no ring, so a filled table is its own closure.
    return tuple(sorted(known))
