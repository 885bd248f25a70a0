"""The first fault of each part of a paper that has the form that it should have."""

from nevergoback.growth import later_looks, next_looks, orders_of
from nevergoback.joins import end_of
from nevergoback.journeys import comes_back, hops_of, is_return
from nevergoback.looks import is_back
from nevergoback.waits import is_cut, kept_table, waits_table
from nevergoback.walks import first_hop_not, looks_of


def _first_open(looks, nexts, told):
    """The first of the looks and the first next one with which it joins to one that is not told, or None."""
    kept = {}
    for look in looks:
        for hop in nexts.get(end_of(look), []):
            for order in orders_of(kept, look[2], hop[2]):
                if (look[0], hop[1], order) not in told:
                    return (look, hop)
    return None


def _open_fault(looks, nexts, told):
    """The fault of a set that is not closed."""
    found = _first_open(looks, nexts, told)
    return None if found is None else ("open",) + found


def closed_fault(looks, table):
    """The fault of a set that should be closed by the table."""
    told = {look: True for look in looks}
    for look in table:
        if look not in told:
            return ("lacks", look)
    return _open_fault(looks, next_looks(table), told)


def set_fault(looks, table):
    """The fault of a set that should show that the table is safe."""
    fault = closed_fault(looks, table)
    if fault is not None:
        return fault
    for look in looks:
        if is_back(look):
            return ("back", look)
    return None


def sets_fault(sets, table, waits):
    """The fault of two sets that should show that the plan is calm."""
    fault = set_fault(sets[0], waits_table(waits))
    if fault is not None:
        return ("still", fault)
    fault = set_fault(sets[1], kept_table(table, waits))
    return None if fault is None else ("round", fault)


def between_fault(looks, table, most):
    """The fault of a set that should be closed by the table and have no looks but most of all these."""
    fault = closed_fault(looks, table)
    if fault is not None:
        return fault
    told = {look: True for look in most}
    for look in looks:
        if look not in told:
            return ("beyond", look)
    return None


def once_fault(looks, table):
    """The fault of a set that should show that the table is passing once."""
    told = {look: True for look in looks}
    nexts = later_looks(table)
    found = _first_open(table, nexts, told)
    if found is not None:
        return ("lacks",) + found
    fault = _open_fault(looks, nexts, told)
    if fault is not None:
        return fault
    for look in looks:
        if is_return(look):
            return ("back", look)
    return None


def walk_fault(nodes, table):
    """The fault of a walk that should be one of the table."""
    hop = first_hop_not(table, nodes)
    return None if hop is None else ("hop", hop)


def ring_fault(nodes, table):
    """The fault of a ring that should be one of the table."""
    return walk_fault(nodes + nodes[:1], table)


def journey_fault(visits, table):
    """The fault of a journey that should be one of the table and come back."""
    told = {look: True for look in table}
    for index, look in enumerate(hops_of(visits)):
        if look not in told:
            return ("hop", index)
    return None if comes_back(visits) else ("back",)


def harm_fault(pair, table, waits):
    """The fault of a ring that should be one of the waits' table ("still") or of the kept table ("round")."""
    word, nodes = pair
    return ring_fault(nodes, waits_table(waits) if word == "still" else kept_table(table, waits))


def empty_fault(nodes, table, waits):
    """The fault of nodes the first of which should be left with no one to hand on to."""
    for place, node in enumerate(nodes[1:]):
        look = looks_of((nodes[0], node))[0]
        if not node[1 + place] < nodes[0][1 + place]:
            return ("less", place)
        if look in table:
            return ("told", place)
        if is_cut(waits, look):
            return ("cut", place)
    return None


def breaks_fault(breaks, plans):
    """The fault of breaks that should tell a harm for each of the plans."""
    if len(breaks) != len(plans):
        return ("many",)
    for index, (table, waits) in enumerate(plans):
        fault = harm_fault(breaks[index], table, waits)
        if fault is not None:
            return ("break", index, fault)
    return None


def _leaf_fault(leaf, told, may, above):
    """The index of the first hop of a leaf that is not right, or None; above are pairs (order, 1 or 0)."""
    word, nodes = leaf
    waiting = [order for order, way in above if way == 1]
    idle = [order for order, way in above if way == 0]
    if word == "still":
        return first_hop_not(waits_table(waiting), nodes + nodes[:1])
    for index, look in enumerate(looks_of(nodes + nodes[:1])):
        # A hop needs but one order, so none is left open here if this one was decided not to wait.
        if look not in told or (is_cut(may, look) and not is_cut(idle, look)):
            return index
    return None


def tree_fault(tree, table, may):
    """The fault of a tree that should show that no waits of these orders are calm with the table."""
    told = {look: True for look in table}
    left = [(tree, ())]
    while left:
        part, above = left.pop()
        path = tuple([way for order, way in above])
        if len(part) == 3:
            if part[0] not in may or part[0] in [order for order, way in above]:
                return ("order", path)
            left.extend([(part[2], above + ((part[0], 0),)), (part[1], above + ((part[0], 1),))])
        else:
            hop = _leaf_fault(part, told, may, above)
            if hop is not None:
                return ("leaf", path, hop)
    return None
