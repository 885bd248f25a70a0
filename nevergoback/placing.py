"""Nodes with numbers for them, where the looks between some of them are told.

A tie is a triple (index, index, look) of two nodes, told by their indices, and the look from the first to the second.
"""


def _layers(many, tie):
    """The numbers of the two nodes of a tie, told by their indices among all, in a list for each rank."""
    one, other, look = tie
    layers = [[] for rank in range(max(look[2]) + 1)]
    for place in range(many):
        layers[look[2][place]].append(many * one + place)
        layers[look[2][many + place]].append(many * other + place)
    return layers


def _head(heads, number):
    """The number that stands for all that are the same as this one."""
    while heads[number] != number:
        number = heads[number]
    return number


def _heads(size, rows):
    """For each number the one that stands for all that are the same as it: those in one layer are the same."""
    heads = list(range(size))
    for layers in rows:
        for layer in layers:
            for number in layer[1:]:
                heads[_head(heads, number)] = _head(heads, layer[0])
    return [_head(heads, number) for number in range(size)]


def _heights(size, steps):
    """The least height from 1 on for each number, so that each step (low, high) goes up, or None if there are none."""
    above = [[] for number in range(size)]
    below = [0] * size
    for low, high in steps:
        above[low].append(high)
        below[high] = below[high] + 1
    heights = [1] * size
    ready = [number for number in range(size) if below[number] == 0]
    done = 0
    while ready:
        low = ready.pop()
        done = done + 1
        for high in above[low]:
            heights[high] = max(heights[high], heights[low] + 1)
            below[high] = below[high] - 1
            if below[high] == 0:
                ready.append(high)
    # Numbers on a round of steps are never ready, nor are those above them.
    return heights if done == size else None


def _standings(count, ties):
    """The standings of the nodes."""
    standings = [0] * count
    for one, other, look in ties:
        standings[one] = look[0]
        standings[other] = look[1]
    return standings


def hops_along(chain):
    """The ties of a walk that fits the chain."""
    return [(at, at + 1, look) for at, look in enumerate(chain)]


def ends_too(chain, look):
    """The ties of a walk that fits the chain, and that from its first node to the last one."""
    return hops_along(chain) + [(0, len(chain), look)]


def numbers_for(count, ties):
    """The numbers, a tuple of them for each of so many nodes, by the orders of all ties, or None if there are none.

    Each node is in some tie. The numbers are small: each is at most as great as there are numbers.
    """
    many = len(ties[0][2][2]) // 2
    rows = [_layers(many, tie) for tie in ties]
    heads = _heads(many * count, rows)
    steps = [(heads[low[0]], heads[high[0]]) for layers in rows for low, high in zip(layers, layers[1:])]
    heights = _heights(many * count, steps)
    if heights is None:
        return None
    numbers = [heights[head] for head in heads]
    return [tuple(numbers[many * at:many * at + many]) for at in range(count)]


def placed(count, ties):
    """So many nodes with the looks of all ties, which tell one standing for each node, or None if there are none."""
    numbers = numbers_for(count, ties)
    if numbers is None:
        return None
    return tuple([(standing,) + told for standing, told in zip(_standings(count, ties), numbers)])
