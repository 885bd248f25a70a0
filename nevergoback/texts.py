"""Stage 15: tables as texts, and texts of conditions."""

from nevergoback.errors import ParseError
from nevergoback.orders import all_orders

STANDINGS = ("old", "new")
# Which of the three outcomes a sign allows.
SIGNS = {"<": "<", "<=": "<=", "=": "=", "!=": "<>", ">=": "=>", ">": ">"}


def _names(many):
    """The names of the numbers of two nodes."""
    return [f"{node}{place + 1}" for node in ("u", "v") for place in range(many)]


def _head(first, second):
    """The words for the standings with which a line begins."""
    return f"{STANDINGS[first]} {STANDINGS[second]}:"


def _outcome(one, other):
    """The sign between two ranks."""
    if one < other:
        return "<"
    return "=" if one == other else ">"


def _line(look):
    """The line for a look, with its line end."""
    names = _names(len(look[2]) // 2)
    rows = sorted([(rank, at) for at, rank in enumerate(look[2])])
    pairs = [f"{names[at]} {_outcome(rank, next_rank)} {names[next_at]}"
             for (rank, at), (next_rank, next_at) in zip(rows, rows[1:])]
    told = ", ".join(pairs)
    return f"{_head(look[0], look[1])} {told}\n"


def format_table(table):
    """The text of a table."""
    return "".join([_line(look) for look in table])


def _comparison(names, text):
    """The two numbers, by their indices, and the sign between them as a triple (index, sign, index), or None."""
    words = text.split(" ")
    if len(words) != 3 or words[0] not in names or words[1] not in SIGNS or words[2] not in names:
        return None
    return (names.index(words[0]), words[1], names.index(words[2]))


def _condition(many, line):
    """The two standings and the list of the comparisons of a line, or None if it is no such line."""
    for first in (0, 1):
        for second in (0, 1):
            head = _head(first, second)
            if line == head:
                return (first, second, [])
            if line.startswith(head + " "):
                names = _names(many)
                comparisons = [_comparison(names, part) for part in line[len(head) + 1:].split(", ")]
                return None if None in comparisons else (first, second, comparisons)
    return None


def _holds(order, comparison):
    """Whether a comparison holds for two nodes with this order."""
    one, sign, other = comparison
    return _outcome(order[one], order[other]) in SIGNS[sign]


def parse_conditions(many, text):
    """The table of all looks for which some line of a text of conditions holds."""
    lines = text.split("\n")
    orders = all_orders(many)
    looks = {}
    for index, line in enumerate(lines[:-1]):
        condition = _condition(many, line)
        if condition is None:
            raise ParseError(index)
        first, second, comparisons = condition
        for order in orders:
            if all([_holds(order, comparison) for comparison in comparisons]):
                looks[(first, second, order)] = True
    if lines[-1] != "":
        raise ParseError(len(lines) - 1)
    return tuple(sorted(looks))
