"""Stage 1: the order of a tuple of numbers is the tuple of their ranks."""

# The greatest number of a node or visit on paper, and the greatest length of a link.
GREATEST = 10 ** 40


def is_number(value):
    """Whether any value is an integer: an int that is not a bool."""
    return isinstance(value, int) and not isinstance(value, bool)


def order_of(numbers):
    """The order of a tuple of integers."""
    ranks = {number: rank for rank, number in enumerate(sorted(set(numbers)))}
    return tuple([ranks[number] for number in numbers])


def is_order(value, size):
    """Whether any value is the order of so many numbers."""
    if not isinstance(value, tuple) or len(value) != size:
        return False
    # True == 1 and lists cannot be ranked, so the kinds of the parts come first.
    return all([is_number(part) for part in value]) and order_of(value) == value


def all_orders(many):
    """The ascending tuple of all orders of two nodes with so many numbers each."""
    size = 2 * many
    rows = [()]
    for _ in range(size):
        rows = [row + (rank,) for row in rows for rank in range(size)]
    # The ranks of an order are all from 0 to the greatest one.
    return tuple([row for row in rows if len(set(row)) == max(row) + 1])


def turned(order):
    """The order of two nodes, told from the other one."""
    half = len(order) // 2
    return order[half:] + order[:half]
