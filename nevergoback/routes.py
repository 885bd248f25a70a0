"""Shortest ways to the target, and shortest rounds."""

from heapq import heapify, heappop, heappush


def distances(ways, place):
    """The distance to the target, by the lengths of this place, for each name that has a way to it.

    For each name the ways tell a list of pairs of another one, or None for the target, and the lengths.
    """
    found = {}
    queue = [(lengths[place], name) for name in ways for other, lengths in ways[name] if other is None]
    heapify(queue)
    while queue:
        distance, name = heappop(queue)
        if name not in found:
            found[name] = distance
            for other, lengths in ways[name]:
                if other is not None and other not in found:
                    heappush(queue, (distance + lengths[place], other))
    return found


def _turned_back(nexts):
    """For each name the list of those that have it as a next one."""
    found = {name: [] for name in nexts}
    for name in nexts:
        for other in nexts[name]:
            found[other].append(name)
    return found


def _endless(nexts):
    """The nexts of those names from which there are ways on without an end."""
    earlier = _turned_back(nexts)
    counts = {name: len(nexts[name]) for name in nexts}
    ends = [name for name in nexts if counts[name] == 0]
    while ends:
        end = ends.pop()
        for name in earlier[end]:
            counts[name] = counts[name] - 1
            if counts[name] == 0:
                ends.append(name)
    return {name: [other for other in nexts[name] if counts[other] > 0] for name in nexts if counts[name] > 0}


def _way_back(before, name):
    """The names on the way that was found to this one, from the first on."""
    found = []
    while name is not None:
        found.append(name)
        name = before[name]
    return tuple(reversed(found))


def _round_through(nexts, start, limit):
    """A shortest round through this name of those that have fewer names than the limit, or None."""
    before = {start: None}
    latest = [start]
    size = 1
    while latest and size < limit:
        further = []
        for name in latest:
            for other in nexts[name]:
                if other == start:
                    return _way_back(before, name)
                # Names that are no keys were left out because their rounds are known.
                if other in nexts and other not in before:
                    before[other] = name
                    further.append(other)
        latest = further
        size = size + 1
    return None


def shortest_round(nexts):
    """A shortest tuple of names, each of which has the next one among its nexts, the last one the first; or None."""
    left = _turned_back(_endless(_turned_back(_endless(nexts))))
    best = None
    for start in list(left):
        found = _round_through(left, start, len(left) + 1 if best is None else len(best))
        if found is not None:
            best = found
        del left[start]
    return best
