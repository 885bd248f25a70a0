"""Which values have the form of a paper for a claim, whether it is right or not.

Each function takes any value.
"""

from nevergoback.arrivals import kinds
from nevergoback.journeys import FEWEST_VISITS, MOST_VISITS, is_visit
from nevergoback.looks import all_looks, is_look, is_node, is_table, is_waits
from nevergoback.mends import is_choice
from nevergoback.orders import GREATEST, is_number, is_order
from nevergoback.walks import MOST_NODES

MOST_LEAVES = 2500
MOST_DEPTH = 75
HARMS = ("still", "round")


def _is_tuple(value, size):
    """Whether a value is a tuple of so many parts."""
    return isinstance(value, tuple) and len(value) == size


def _is_bounded(numbers):
    """Whether none of these numbers is greater than those on paper may be."""
    return max(numbers) <= GREATEST


def _are_nodes(many, value, fewest, most):
    """Whether a value is a tuple of nodes, not fewer and not more than told."""
    if not isinstance(value, tuple) or not fewest <= len(value) <= most:
        return False
    return all([is_node(many, node) and _is_bounded(node[1:]) for node in value])


def _is_ring(many, value):
    """Whether a value is such a tuple as rings and walks are."""
    return _are_nodes(many, value, 2, MOST_NODES)


def _is_journey(many, value):
    """Whether a value is such a tuple as journeys are."""
    if not isinstance(value, tuple) or not FEWEST_VISITS <= len(value) <= MOST_VISITS:
        return False
    return all([is_visit(many, visit) and _is_bounded(visit[2:]) for visit in value])


def _is_harm(many, value):
    """Whether a value is a pair of "still" or "round" and a ring."""
    return _is_tuple(value, 2) and value[0] in HARMS and _is_ring(many, value[1])


def _are_breaks(many, value):
    """Whether a value is a tuple of such pairs."""
    return isinstance(value, tuple) and all([_is_harm(many, pair) for pair in value])


def _are_sets(many, value):
    """Whether a value is two sets."""
    return _is_tuple(value, 2) and is_table(many, value[0]) and is_table(many, value[1])


def _is_branch(many, value):
    """Whether a value is an order ahead of two parts."""
    return _is_tuple(value, 3) and is_order(value[0], 2 * many)


def _is_tree(many, value):
    """Whether a value is a tree, neither too wide nor too deep."""
    leaves = 0
    left = [(value, 0)]
    while left:
        part, depth = left.pop()
        if _is_branch(many, part) and depth < MOST_DEPTH:
            left.extend([(part[2], depth + 1), (part[1], depth + 1)])
        elif _is_harm(many, part) and leaves < MOST_LEAVES:
            leaves = leaves + 1
        else:
            return False
    return True


def _are_places(many, value):
    """Whether a value is a place for each kind."""
    if not _is_tuple(value, len(kinds(many))):
        return False
    return all([is_number(place) and 0 <= place < many for place in value])


def _are_rings(claim, value):
    """Whether a value is as many rings as looks are lacking in the claim's table."""
    many, table = claim[1:]
    return _is_tuple(value, len(all_looks(many)) - len(table)) and all([_is_ring(many, ring) for ring in value])


def _is_mended(claim, value, parts):
    """Whether a value is so many parts, the first two of which are a choice and two sets."""
    return _is_tuple(value, parts) and is_choice(claim[4], value[0]) and _are_sets(claim[1], value[1])


def _is_shown(claim, paper):
    """Whether a value has the form of a paper that shows a claim."""
    word, many = claim[0], claim[1]
    if word == "calm":
        return _are_sets(many, paper)
    if word == "brings":
        return _is_tuple(paper, 3) and _are_sets(many, paper[:2]) and _are_places(many, paper[2])
    if word == "none":
        return _is_tree(many, paper)
    if word == "full":
        return _is_tuple(paper, 2) and is_table(many, paper[0]) and _are_rings(claim, paper[1])
    if word == "mend" and claim[5] is None:
        return _are_breaks(many, paper)
    if word == "mend":
        return _is_mended(claim, paper, 3) and _are_breaks(many, paper[2])
    return is_table(many, paper)


def _is_full_broken(many, paper):
    """Whether a value tells a ring, or a look and a set."""
    if _is_tuple(paper, 2):
        return paper[0] == "ring" and _is_ring(many, paper[1])
    return _is_tuple(paper, 3) and paper[0] == "room" and is_look(many, paper[1]) and is_table(many, paper[2])


def _is_mend_broken(claim, paper):
    """Whether a value tells a choice that costs less, or breaks if there may be some that cost more."""
    if not isinstance(paper, tuple) or paper == ():
        return False
    if paper[0] == "less":
        return _is_mended(claim, paper[1:], 2)
    return _is_tuple(paper, 2) and paper[0] == "more" and claim[5] is not None and _are_breaks(claim[1], paper[1])


def _is_broken(claim, paper):
    """Whether a value has the form of a paper that breaks a claim."""
    word, many = claim[0], claim[1]
    if word == "once":
        return _is_journey(many, paper)
    if word == "calm":
        return _is_harm(many, paper)
    if word == "brings" and _is_tuple(paper, 2) and paper[0] == "empty":
        return _are_nodes(many, paper[1], many + 1, many + 1)
    if word == "brings":
        return _is_harm(many, paper)
    if word == "none":
        return _is_tuple(paper, 3) and is_waits(many, paper[0]) and _are_sets(many, paper[1:])
    if word == "full":
        return _is_full_broken(many, paper)
    if word == "mend":
        return _is_mend_broken(claim, paper)
    return _is_ring(many, paper)


def has_form(claim, verdict, paper):
    """Whether values are a verdict on a valid claim and have the form of a paper for it."""
    if verdict == "shown":
        return _is_shown(claim, paper)
    return verdict == "broken" and _is_broken(claim, paper)
