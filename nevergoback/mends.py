"""Stage 11: the cheapest changes with which a plan is calm."""

from nevergoback.errors import InvalidOptions
from nevergoback.looks import is_table, is_waits
from nevergoback.orders import is_number
from nevergoback.waits import is_calm

MOST_OPTIONS = 4
GREATEST_COST = 99


def _is_option(many, value):
    """Whether any value is an option: what is done, with which set, and its cost."""
    if not isinstance(value, tuple) or len(value) != 3:
        return False
    what, parts, cost = value
    if not is_number(cost) or not 0 <= cost <= GREATEST_COST or parts == ():
        return False
    if what == "forbid":
        return is_table(many, parts)
    return what == "wait" and is_waits(many, parts)


def _is_some(value):
    """Whether any value is a tuple of as many parts as there may be options."""
    return isinstance(value, tuple) and 1 <= len(value) <= MOST_OPTIONS


def is_options(many, value):
    """Whether any value is options for plans of so many numbers."""
    return _is_some(value) and all([_is_option(many, part) for part in value])


def require_options(many, value):
    """Any value, if it is options for plans of so many numbers."""
    if not _is_some(value):
        raise InvalidOptions(None)
    for index, part in enumerate(value):
        if not _is_option(many, part):
            raise InvalidOptions(index)
    return value


def is_choice(options, value):
    """Whether any value is a strictly ascending tuple of indices of options."""
    if not isinstance(value, tuple):
        return False
    if not all([is_number(index) and 0 <= index < len(options) for index in value]):
        return False
    return all([one < other for one, other in zip(value, value[1:])])


def cost_of(options, choice):
    """The sum of the costs of what is chosen."""
    return sum([options[index][2] for index in choice])


def choices(options):
    """All choices, by their costs, then as tuples."""
    rows = [()]
    for index in range(len(options)):
        rows = rows + [row + (index,) for row in rows]
    for cost, row in sorted([(cost_of(options, row), row) for row in rows]):
        yield row


def choices_below(options, limit):
    """The list of the choices that cost less than the limit, or of all if it is None, in their order."""
    return [choice for choice in choices(options) if limit is None or cost_of(options, choice) < limit]


def with_choice(table, waits, options, choice):
    """The table and the waits of the plan with all that the choice does."""
    forbidden = {}
    waiting = {order: True for order in waits}
    for index in choice:
        what, parts, cost = options[index]
        for part in parts:
            if what == "forbid":
                forbidden[part] = True
            else:
                waiting[part] = True
    return (tuple([look for look in table if look not in forbidden]), tuple(sorted(waiting)))


def cheapest_mend(table, waits, options):
    """The first choice with which the plan is calm, or None."""
    for choice in choices(options):
        less, more = with_choice(table, waits, options, choice)
        if is_calm(less, more):
            return choice
    return None
