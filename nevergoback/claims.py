"""Stage 12: claims, and certificates for or against them."""

from nevergoback.arrivals import empty_handed, good_places
from nevergoback.closures import closure, shortest_ring, walk_to
from nevergoback.errors import InvalidClaim
from nevergoback.full import chains_back
from nevergoback.journeys import coming_back, journeys_set
from nevergoback.looks import is_table, is_waits
from nevergoback.mends import cheapest_mend, choices_below, cost_of, is_options, with_choice
from nevergoback.orders import is_number
from nevergoback.trials import waits_or_tree
from nevergoback.waits import harm, kept_table, waits_table
from nevergoback.walks import ring_for

GREATEST_SUM = 400

# For each word what the parts of a claim behind many are.
PARTS = {
    "safe": ("table",),
    "once": ("table",),
    "between": ("table", "table"),
    "calm": ("table", "waits"),
    "brings": ("table", "waits"),
    "none": ("table", "waits"),
    "full": ("table",),
    "mend": ("table", "waits", "options", "sum"),
}


def _is_part(kind, many, value):
    """Whether any value is a part of this kind."""
    if kind == "table":
        return is_table(many, value)
    if kind == "waits":
        return is_waits(many, value)
    if kind == "options":
        return is_options(many, value)
    return value is None or (is_number(value) and 0 <= value <= GREATEST_SUM)


def is_claim(value):
    """Whether any value is a valid claim."""
    if not isinstance(value, tuple) or len(value) < 2:
        return False
    word, many = value[0], value[1]
    if not isinstance(word, str) or word not in PARTS or not is_number(many) or many not in (1, 2):
        return False
    kinds = PARTS[word]
    if len(value) != 2 + len(kinds):
        return False
    return all([_is_part(kind, many, part) for kind, part in zip(kinds, value[2:])])


def require_claim(claim):
    """Any value, if it is a valid claim."""
    if not is_claim(claim):
        raise InvalidClaim()
    return claim


def _sets(table, waits):
    """The two sets that show that a plan is calm."""
    return (closure(waits_table(waits)), closure(kept_table(table, waits)))


def _safe(claim, tries):
    """The verdict and the paper for a claim; likewise below."""
    ring = shortest_ring(claim[2])
    return ("shown", closure(claim[2])) if ring is None else ("broken", ring)


def _once(claim, tries):
    journey = coming_back(claim[2])
    return ("shown", journeys_set(claim[2])) if journey is None else ("broken", journey)


def _between(claim, tries):
    table, looks = claim[2:]
    told = {look: True for look in looks}
    found = closure(table)
    for look in found:
        if look not in told:
            return ("broken", walk_to(table, look))
    return ("shown", found)


def _calm(claim, tries):
    table, waits = claim[2:]
    found = harm(table, waits)
    return ("shown", _sets(table, waits)) if found is None else ("broken", found)


def _brings(claim, tries):
    many, table, waits = claim[1:]
    found = harm(table, waits)
    if found is not None:
        return ("broken", found)
    nodes = empty_handed(many, table, waits)
    if nodes is not None:
        return ("broken", ("empty", nodes))
    places = tuple([good[0] for good in good_places(many, table, waits)])
    return ("shown", _sets(table, waits) + (places,))


def _none(claim, tries):
    table, may = claim[2:]
    waits, tree = waits_or_tree(table, may, tries)
    return ("shown", tree) if waits is None else ("broken", (waits,) + _sets(table, waits))


def _full(claim, tries):
    many, table = claim[1:]
    ring = shortest_ring(table)
    if ring is not None:
        return ("broken", ("ring", ring))
    chains = chains_back(many, table)
    for look, chain in chains:
        if chain is None:
            return ("broken", ("room", look, closure(table + (look,))))
    return ("shown", (closure(table), tuple([ring_for(chain) for look, chain in chains])))


def _breaks(claim, limit):
    """For each choice that costs less than the limit, or for all if it is None, the harm that it leaves."""
    table, waits, options = claim[2:5]
    plans = [with_choice(table, waits, options, choice) for choice in choices_below(options, limit)]
    return tuple([harm(less, more) for less, more in plans])


def _mend(claim, tries):
    table, waits, options, told = claim[2:]
    choice = cheapest_mend(table, waits, options)
    if choice is None:
        # All that cost more than what is told do not mend either, but are not asked for.
        return ("shown", _breaks(claim, None)) if told is None else ("broken", ("more", _breaks(claim, told + 1)))
    least = cost_of(options, choice)
    if told is not None and told < least:
        return ("broken", ("more", _breaks(claim, told + 1)))
    less, more = with_choice(table, waits, options, choice)
    if told == least:
        return ("shown", (choice, _sets(less, more), _breaks(claim, least)))
    return ("broken", ("less", choice, _sets(less, more)))


DECIDED = {
    "safe": _safe,
    "once": _once,
    "between": _between,
    "calm": _calm,
    "brings": _brings,
    "none": _none,
    "full": _full,
    "mend": _mend,
}


def decide(claim, *, tries=200):
    """A certificate with the right verdict on a claim."""
    require_claim(claim)
    answer = DECIDED[claim[0]]
    verdict, paper = answer(claim, tries)
    return (verdict, claim, paper)
