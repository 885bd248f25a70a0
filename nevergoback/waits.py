"""Stage 7: waits, by which a node goes on only behind some of its neighbours."""

from nevergoback.closures import is_safe, shortest_ring
from nevergoback.orders import turned


def waits_table(waits):
    """The table by which nodes of the old standing wait for one another."""
    return tuple([(0, 0, order) for order in waits])


def is_cut(waits, look):
    """Whether one node of the look has gone on though it had to wait for the other one."""
    first, second, order = look
    if first == second:
        return False
    return (order if first == 1 else turned(order)) in waits


def kept_table(table, waits):
    """The looks of the table that are not cut by the waits."""
    return tuple([look for look in table if not is_cut(waits, look)])


def is_calm(table, waits):
    """Whether no net comes to a standstill or to a mixture in which a packet can go round."""
    return is_safe(waits_table(waits)) and is_safe(kept_table(table, waits))


def harm(table, waits):
    """A shortest ring of the waits' table or, if there is none, of the kept table, with the word for it, or None."""
    ring = shortest_ring(waits_table(waits))
    if ring is not None:
        return ("still", ring)
    ring = shortest_ring(kept_table(table, waits))
    return None if ring is None else ("round", ring)
