"""Stage 12: certificates, checked without search."""

from nevergoback.arrivals import kinds, lacking
from nevergoback.claims import is_claim
from nevergoback.faults import (
    between_fault, breaks_fault, empty_fault, harm_fault, journey_fault, once_fault, ring_fault, set_fault,
    sets_fault, tree_fault, walk_fault)
from nevergoback.looks import all_looks, look_between
from nevergoback.mends import choices_below, cost_of, with_choice
from nevergoback.papers import has_form


def _safe_shown(claim, paper):
    """The first fault of a paper that has the form for such a claim and verdict, or None; likewise below."""
    return set_fault(paper, claim[2])


def _safe_broken(claim, paper):
    return ring_fault(paper, claim[2])


def _once_shown(claim, paper):
    return once_fault(paper, claim[2])


def _once_broken(claim, paper):
    return journey_fault(paper, claim[2])


def _between_shown(claim, paper):
    return between_fault(paper, claim[2], claim[3])


def _between_broken(claim, paper):
    fault = walk_fault(paper, claim[2])
    if fault is not None:
        return fault
    return ("within",) if look_between(paper[0], paper[-1]) in claim[3] else None


def _calm_shown(claim, paper):
    return sets_fault(paper, claim[2], claim[3])


def _calm_broken(claim, paper):
    return harm_fault(paper, claim[2], claim[3])


def _brings_shown(claim, paper):
    many, table, waits = claim[1:]
    fault = sets_fault(paper[:2], table, waits)
    if fault is not None:
        return fault
    for index, kind in enumerate(kinds(many)):
        looks = lacking(many, table, waits, kind, paper[2][index])
        if looks:
            return ("missing", index, looks[0])
    return None


def _brings_broken(claim, paper):
    if paper[0] == "empty":
        return empty_fault(paper[1], claim[2], claim[3])
    return harm_fault(paper, claim[2], claim[3])


def _none_shown(claim, paper):
    return tree_fault(paper, claim[2], claim[3])


def _none_broken(claim, paper):
    if not all([order in claim[3] for order in paper[0]]):
        return ("may",)
    return sets_fault(paper[1:], claim[2], paper[0])


def _full_shown(claim, paper):
    many, table = claim[1:]
    looks, rings = paper
    fault = set_fault(looks, table)
    if fault is not None:
        return fault
    told = {look: True for look in table}
    lacked = [look for look in all_looks(many) if look not in told]
    for index, (look, ring) in enumerate(zip(lacked, rings)):
        # A safe table has no ring without this look.
        fault = ring_fault(ring, table + (look,))
        if fault is not None:
            return ("ring", index, fault)
    return None


def _full_broken(claim, paper):
    table = claim[2]
    if paper[0] == "ring":
        return ring_fault(paper[1], table)
    if paper[1] in table:
        return ("there",)
    return set_fault(paper[2], tuple(sorted(table + (paper[1],))))


def _choice_fault(claim, choice, sets):
    """The fault of two sets that should show that the choice mends."""
    table, waits, options = claim[2:5]
    less, more = with_choice(table, waits, options, choice)
    return sets_fault(sets, less, more)


def _breaks_fault(claim, breaks, limit):
    """The fault of breaks that should tell a harm for each choice that costs less than the limit, if there is one."""
    table, waits, options = claim[2:5]
    chosen = choices_below(options, limit)
    return breaks_fault(breaks, [with_choice(table, waits, options, choice) for choice in chosen])


def _mend_shown(claim, paper):
    options, told = claim[4:]
    if told is None:
        return _breaks_fault(claim, paper, None)
    choice, sets, breaks = paper
    if cost_of(options, choice) != told:
        return ("cost",)
    fault = _choice_fault(claim, choice, sets)
    return _breaks_fault(claim, breaks, told) if fault is None else fault


def _mend_broken(claim, paper):
    options, told = claim[4:]
    if paper[0] == "more":
        return _breaks_fault(claim, paper[1], told + 1)
    word, choice, sets = paper
    if told is not None and not cost_of(options, choice) < told:
        return ("cost",)
    return _choice_fault(claim, choice, sets)


SHOWN = {
    "safe": _safe_shown,
    "once": _once_shown,
    "between": _between_shown,
    "calm": _calm_shown,
    "brings": _brings_shown,
    "none": _none_shown,
    "full": _full_shown,
    "mend": _mend_shown,
}

BROKEN = {
    "safe": _safe_broken,
    "once": _once_broken,
    "between": _between_broken,
    "calm": _calm_broken,
    "brings": _brings_broken,
    "none": _none_broken,
    "full": _full_broken,
    "mend": _mend_broken,
}


def first_fault(certificate):
    """The first fault of any value that should be a certificate, or None if it is right."""
    if not isinstance(certificate, tuple) or len(certificate) != 3:
        return ("form",)
    verdict, claim, paper = certificate
    if not is_claim(claim):
        return ("claim",)
    if not has_form(claim, verdict, paper):
        return ("paper",)
    if verdict == "shown":
        find = SHOWN[claim[0]]
    else:
        find = BROKEN[claim[0]]
    return find(claim, paper)
