"""Stage 2: nodes, the looks from one to another, tables and waits."""

from nevergoback.errors import InvalidTable, InvalidWaits
from nevergoback.orders import all_orders, is_number, is_order, order_of, turned


def is_standing(value):
    """Whether any value is 0 (by the old lengths) or 1 (by the new ones)."""
    return is_number(value) and value in (0, 1)


def is_node(many, value):
    """Whether any value is a node with so many numbers."""
    if not isinstance(value, tuple) or len(value) != 1 + many:
        return False
    return is_standing(value[0]) and all([is_number(part) and part >= 1 for part in value[1:]])


def look_between(u, v):
    """The look from the node u to the node v."""
    return (u[0], v[0], order_of(u[1:] + v[1:]))


def is_look(many, value):
    """Whether any value is a look between nodes with so many numbers."""
    if not isinstance(value, tuple) or len(value) != 3:
        return False
    return is_standing(value[0]) and is_standing(value[1]) and is_order(value[2], 2 * many)


def all_looks(many):
    """The ascending tuple of all looks between nodes with so many numbers."""
    orders = all_orders(many)
    return tuple([(first, second, order) for first in (0, 1) for second in (0, 1) for order in orders])


def is_back(look):
    """Whether nodes with this look are alike."""
    return look[0] == look[1] and look[2] == turned(look[2])


def _first_wrong(parts, sound):
    """The index of the first part that is not sound, or not above the part ahead, or None."""
    for index, part in enumerate(parts):
        # A wrong part ends the search, so the part ahead is always fit to be compared.
        if not sound[index] or (index > 0 and not parts[index - 1] < part):
            return index
    return None


def _first_no_look(many, value):
    """The index of the first part of a tuple that is no look, or not above the part ahead, or None."""
    return _first_wrong(value, [is_look(many, part) for part in value])


def _first_no_order(many, value):
    """The same for orders of two nodes."""
    return _first_wrong(value, [is_order(part, 2 * many) for part in value])


def is_table(many, value):
    """Whether any value is a table of looks between nodes with so many numbers."""
    return isinstance(value, tuple) and _first_no_look(many, value) is None


def is_waits(many, value):
    """Whether any value is a set of orders of two nodes with so many numbers."""
    return isinstance(value, tuple) and _first_no_order(many, value) is None


def require_table(many, value):
    """Any value, if it is a table of looks between nodes with so many numbers."""
    if not isinstance(value, tuple):
        raise InvalidTable(None)
    wrong = _first_no_look(many, value)
    if wrong is not None:
        raise InvalidTable(wrong)
    return value


def require_waits(many, value):
    """Any value, if it is a set of orders of two nodes with so many numbers."""
    if not isinstance(value, tuple):
        raise InvalidWaits(None)
    wrong = _first_no_order(many, value)
    if wrong is not None:
        raise InvalidWaits(wrong)
    return value
