"""The links of a net, each a triple of two ends and the lengths; the target is the end None."""

from nevergoback.errors import InvalidLinks
from nevergoback.orders import GREATEST, is_number

LETTERS = "abcdefghijklmnopqrstuvwxyz"
MOST_LETTERS = 8
MOST_LINKS = 2000


def is_name(value):
    """Whether any value can be the name of a node."""
    if not isinstance(value, str) or not 1 <= len(value) <= MOST_LETTERS:
        return False
    return all([sign in LETTERS for sign in value])


def _is_length(value):
    """Whether any value can be a length of a link."""
    return is_number(value) and 1 <= value <= GREATEST


def _is_link(many, value):
    """Whether any value is a link with so many lengths."""
    if not isinstance(value, tuple) or len(value) != 3:
        return False
    name, other, lengths = value
    if not is_name(name) or not (other is None or is_name(other)) or other == name:
        return False
    return isinstance(lengths, tuple) and len(lengths) == many and all([_is_length(length) for length in lengths])


def _ends(link):
    """The two ends of a link, the same from whichever end it is told."""
    name, other, lengths = link
    return (other, name) if other is not None and other < name else (name, other)


def require_links(many, value):
    """Any value, if it is links with so many lengths, no two of which have the same ends."""
    if not isinstance(value, tuple) or not 1 <= len(value) <= MOST_LINKS:
        raise InvalidLinks(None)
    known = {}
    for index, link in enumerate(value):
        if not _is_link(many, link) or _ends(link) in known:
            raise InvalidLinks(index)
        known[_ends(link)] = True
    return value


def ways_of(links):
    """For each name, ascending, the list of the pairs (other end, lengths) of its links."""
    found = {}
    for name, other, lengths in links:
        found.setdefault(name, []).append((other, lengths))
        if other is not None:
            found.setdefault(other, []).append((name, lengths))
    return {name: found[name] for name in sorted(found)}
