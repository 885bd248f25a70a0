"""Points 15 and 16 once more, word by word: which claims are valid and true, and the first fault of a certificate.

Nothing of the package is used here.
"""

import itertools

import helper

WORDS = ("safe", "once", "between", "calm", "brings", "none", "full", "mend")
KINDS = {many: tuple(sorted({helper.kind(look) for look in helper.looks(many)})) for many in (1, 2)}


# Which values have which form.

def integer(value, low, high):
    return type(value) is int and low <= value <= high


def ascending(parts):
    return type(parts) is tuple and all(one < other for one, other in zip(parts, parts[1:]))


def among(rows):
    """The form of a value that is one of these, booleans and lists being none."""
    return lambda value: helper.is_plain(value) and value in rows


def some_of(rows):
    """The form of an ascending tuple of some of these."""
    return lambda value: helper.is_plain(value) and type(value) is tuple and all(
        part in rows for part in value) and ascending(value)


LOOK = {many: among(frozenset(helper.looks(many))) for many in (1, 2)}
SET = {many: some_of(frozenset(helper.looks(many))) for many in (1, 2)}
WAITS = {many: some_of(frozenset(helper.orders(many))) for many in (1, 2)}


def parts(*forms):
    """The form of a tuple of so many parts, each of its own form."""
    return lambda value: type(value) is tuple and len(value) == len(forms) and all(
        form(part) for form, part in zip(forms, value))


def row(form, low, high):
    """The form of a tuple of low to high parts of one form."""
    return lambda value: type(value) is tuple and low <= len(value) <= high and all(form(part) for part in value)


def either(*forms):
    return lambda value: any(form(value) for form in forms)


def word(*words):
    return lambda value: type(value) is str and value in words


def option(many):
    def cost(value):
        return integer(value, 0, 99)

    def no_less_than_one(form):
        return lambda value: form(value) and len(value) > 0

    return either(parts(word("forbid"), no_less_than_one(SET[many]), cost),
                  parts(word("wait"), no_less_than_one(WAITS[many]), cost))


def is_claim(value):
    """Whether a value is a valid claim."""
    if type(value) is not tuple or len(value) < 2 or type(value[1]) is not int or value[1] not in (1, 2):
        return False
    many = value[1]
    table, waits, number = SET[many], WAITS[many], either(lambda n: n is None, lambda n: integer(n, 0, 400))
    forms = {"safe": (table,), "once": (table,), "between": (table, table), "calm": (table, waits),
             "brings": (table, waits), "none": (table, waits), "full": (table,),
             "mend": (table, waits, row(option(many), 1, 4), number)}
    return type(value[0]) is str and value[0] in forms and parts(*forms[value[0]])(value[2:])


def node(many):
    return lambda value: type(value) is tuple and len(value) == 1 + many and integer(value[0], 0, 1) and all(
        integer(number, 1, helper.GREATEST) for number in value[1:])


def visit(many):
    return lambda value: type(value) is tuple and len(value) == 2 + many and node(many)(value[1:]) and integer(
        value[0], 0, 1) and value[0] <= value[1]


def ring(many):
    return row(node(many), 2, 1000)


def harm(many):
    return parts(word("still", "round"), ring(many))


def tree(many):
    def is_tree(value):
        leaves, left = 0, [(value, 0)]
        while left:
            part, depth = left.pop()
            if type(part) is tuple and len(part) == 3:
                if depth == 75 or not among(frozenset(helper.orders(many)))(part[0]):
                    return False
                left += [(part[1], depth + 1), (part[2], depth + 1)]
            elif harm(many)(part):
                leaves += 1
                if leaves > 2500:
                    return False
            else:
                return False
        return True
    return is_tree


def form(claim, verdict):
    """The form of a paper for a claim and a verdict, a string."""
    name, many = claim[:2]
    some, sets, breaks = SET[many], parts(SET[many], SET[many]), row(harm(many), 0, 10 ** 6)
    if verdict == "shown":
        if name == "full":
            lacking = len(helper.looks(many)) - len(claim[2])
            return parts(some, row(ring(many), lacking, lacking))
        places = row(lambda value: integer(value, 0, many - 1), len(KINDS[many]), len(KINDS[many]))
        return {"calm": sets, "brings": parts(some, some, places), "none": tree(many),
                "mend": mend_shown(claim, sets, breaks)}.get(name, some)
    return {"safe": ring(many), "between": ring(many), "once": row(visit(many), 3, 1000), "calm": harm(many),
            "brings": either(harm(many), parts(word("empty"), row(node(many), many + 1, many + 1))),
            "none": parts(WAITS[many], some, some),
            "full": either(parts(word("ring"), ring(many)), parts(word("room"), LOOK[many], some)),
            "mend": mend_broken(claim, sets, breaks)}[name]


def choice(claim):
    indices = range(len(claim[4]) if claim[0] == "mend" else 0)
    return lambda value: helper.is_plain(value) and type(value) is tuple and all(
        index in indices for index in value) and ascending(value)


def mend_shown(claim, sets, breaks):
    return breaks if claim[-1] is None else parts(choice(claim), sets, breaks)


def mend_broken(claim, sets, breaks):
    less = parts(word("less"), choice(claim), sets)
    return less if claim[-1] is None else either(less, parts(word("more"), breaks))


# What is true.

def kept(claim):
    return helper.uncut(claim[2], claim[3])


def cost(options, some):
    return sum(options[index][2] for index in some)


def all_choices(options):
    rows = [some for size in range(len(options) + 1) for some in itertools.combinations(range(len(options)), size)]
    return sorted(rows, key=lambda some: (cost(options, some), some))


def changed(claim, some):
    """The plan of a claim with all that a choice does."""
    table, waits, options = claim[2:5]
    gone = {look for index in some if options[index][0] == "forbid" for look in options[index][1]}
    more = {order for index in some if options[index][0] == "wait" for order in options[index][1]}
    return tuple(look for look in table if look not in gone), tuple(sorted(more | set(waits)))


def lacks_for(many, table, waits, kind, place):
    """What a table lacks for a place to be good for a kind."""
    return [look for look in helper.looks(many) if helper.kind(look) == kind and
            look[2][many + place] < look[2][place] and look not in table and not helper.cut(waits, look)]


def is_true(claim):
    """Whether a claim is true."""
    name, many, table = claim[:3]
    if name == "safe":
        return helper.safe(table)
    if name == "once":
        return not any(helper.returns(look) for look in helper.journeys_levels(table))
    if name == "between":
        return helper.closed(table) <= set(claim[3])
    if name == "calm":
        return helper.calm(table, claim[3])
    if name == "brings":
        return helper.calm(table, claim[3]) and all(
            any(not lacks_for(many, table, claim[3], kind, place) for place in range(many)) for kind in KINDS[many])
    if name == "none":
        return not any(helper.calm(table, some) for some in helper.subsets(claim[3]))
    if name == "full":
        return helper.safe(table) and not any(
            helper.safe(table + (look,)) for look in helper.looks(many) if look not in table)
    costs = [cost(claim[4], some) for some in all_choices(claim[4]) if helper.calm(*changed(claim, some))]
    return claim[5] == (min(costs) if costs else None)


# What is wrong.

def first(faults):
    return next(iter(faults), None)


def within(head, fault):
    return None if fault is None else head + (fault,)


def unclosed(some, table):
    told = set(some)
    yield from (("lacks", look) for look in table if look not in told)
    yield from (("open", one, other) for one in some for other in table if helper.together(one, other) - told)


def unsafe(some, table):
    yield from unclosed(some, table)
    yield from (("back", look) for look in some if helper.back(look))


def unsafe_plan(sets, table, waits):
    yield from (("still", fault) for fault in unsafe(sets[0], helper.waiting(waits)))
    yield from (("round", fault) for fault in unsafe(sets[1], helper.uncut(table, waits)))


def not_once(some, table):
    told = set(some)
    yield from (("lacks", one, other) for one in table for other in table
                if helper.together(one, other, later=True) - told)
    yield from (("open", one, other) for one in some for other in table
                if helper.together(one, other, later=True) - told)
    yield from (("back", look) for look in some if helper.returns(look))


def no_hops(hops, table):
    yield from (("hop", at) for at, look in enumerate(hops) if look not in table)


def no_harm(pair, table, waits):
    told = helper.waiting(waits) if pair[0] == "still" else helper.uncut(table, waits)
    return no_hops(helper.ring_hops(pair[1]), told)


def not_empty(nodes, table, waits):
    for place, other in enumerate(nodes[1:]):
        if other[1 + place] >= nodes[0][1 + place]:
            yield ("less", place)
        if helper.look(nodes[0], other) in table:
            yield ("told", place)
        if helper.cut(waits, helper.look(nodes[0], other)):
            yield ("cut", place)


def not_none(part, table, may, above):
    """The faults of a tree; above are the pairs (order, 1 or 0) on the way to it."""
    path = tuple(way for _, way in above)
    decided = dict(above)
    if len(part) == 3:
        if part[0] in decided or part[0] not in may:
            yield ("order", path)
        else:
            yield from not_none(part[1], table, may, above + ((part[0], 1),))
            yield from not_none(part[2], table, may, above + ((part[0], 0),))
        return
    for at, look in enumerate(helper.ring_hops(part[1])):
        if part[0] == "still" and not (look[:2] == (0, 0) and decided.get(look[2]) == 1):
            yield ("leaf", path, at)
        if part[0] == "round":
            needs = [order for order in may if helper.cut((order,), look) and decided.get(order) != 0]
            if needs or look not in table:
                yield ("leaf", path, at)


def not_broken(claim, breaks, due):
    if len(breaks) != len(due):
        yield ("many",)
    for at, (pair, some) in enumerate(zip(breaks, due)):
        yield from (("break", at, fault) for fault in no_harm(pair, *changed(claim, some)))


def shown_faults(claim, paper):
    name, many, table = claim[:3]
    if name == "safe":
        yield from unsafe(paper, table)
    elif name == "once":
        yield from not_once(paper, table)
    elif name == "between":
        yield from unclosed(paper, table)
        yield from (("beyond", look) for look in paper if look not in claim[3])
    elif name == "calm":
        yield from unsafe_plan(paper, table, claim[3])
    elif name == "brings":
        yield from unsafe_plan(paper, table, claim[3])
        for at, kind in enumerate(KINDS[many]):
            yield from (("missing", at, look) for look in lacks_for(many, table, claim[3], kind, paper[2][at]))
    elif name == "none":
        yield from not_none(paper, table, claim[3], ())
    elif name == "full":
        yield from unsafe(paper[0], table)
        lacking = [look for look in helper.looks(many) if look not in table]
        for at, look in enumerate(lacking):
            hops = helper.ring_hops(paper[1][at])
            yield from (("ring", at, fault) for fault in no_hops(hops, table + (look,)))
    elif claim[5] is None:
        yield from not_broken(claim, paper, all_choices(claim[4]))
    else:
        if cost(claim[4], paper[0]) != claim[5]:
            yield ("cost",)
        yield from unsafe_plan(paper[1], *changed(claim, paper[0]))
        yield from not_broken(claim, paper[2], [
            some for some in all_choices(claim[4]) if cost(claim[4], some) < claim[5]])


def broken_faults(claim, paper):
    name, many, table = claim[:3]
    if name == "safe":
        yield from no_hops(helper.ring_hops(paper), table)
    elif name == "once":
        yield from no_hops(helper.visit_hops(paper), table)
        start, end = paper[0], paper[-1]
        if start[2:] != end[2:] or end[0] < start[1]:
            yield ("back",)
    elif name == "between":
        yield from no_hops(helper.hops(paper), table)
        if helper.look(paper[0], paper[-1]) in claim[3]:
            yield ("within",)
    elif name == "brings" and paper[0] == "empty":
        yield from not_empty(paper[1], table, claim[3])
    elif name in ("calm", "brings"):
        yield from no_harm(paper, table, claim[3])
    elif name == "none":
        if not set(paper[0]) <= set(claim[3]):
            yield ("may",)
        yield from unsafe_plan(paper[1:], table, paper[0])
    elif name == "full" and paper[0] == "ring":
        yield from no_hops(helper.ring_hops(paper[1]), table)
    elif name == "full":
        if paper[1] in table:
            yield ("there",)
        yield from unsafe(paper[2], tuple(sorted(table + (paper[1],))))
    elif paper[0] == "more":
        yield from not_broken(claim, paper[1], [
            some for some in all_choices(claim[4]) if cost(claim[4], some) <= claim[5]])
    else:
        if claim[5] is not None and cost(claim[4], paper[1]) >= claim[5]:
            yield ("cost",)
        yield from unsafe_plan(paper[2], *changed(claim, paper[1]))


def first_fault(certificate):
    """The first fault of a certificate, or None."""
    if type(certificate) is not tuple or len(certificate) != 3:
        return ("form",)
    verdict, claim, paper = certificate
    if not is_claim(claim):
        return ("claim",)
    if type(verdict) is not str or verdict not in ("shown", "broken") or not form(claim, verdict)(paper):
        return ("paper",)
    return first(shown_faults(claim, paper) if verdict == "shown" else broken_faults(claim, paper))


# What is drawn.

def drawn_options(draw, many, table, costs):
    rows = []
    for _ in range(draw.randint(1, 4)):
        if draw.random() < 0.5:
            looks = table if table and draw.random() < 0.7 else helper.looks(many)
            some = sorted(draw.sample(looks, draw.randint(1, min(4, len(looks)))))
            rows.append(("forbid", tuple(some), draw.choice(costs)))
        else:
            some = helper.drawn_waits(draw, many, 3) or (helper.orders(many)[-1],)
            rows.append(("wait", some, draw.choice(costs)))
    return tuple(rows)


def all_down(draw, many):
    """A table of many looks, by which each node has somewhere to go."""
    place = draw.randrange(many)
    return tuple(look for look in helper.looks(many) if look[2][many + place] < look[2][place] and (
        many == 2 or look[0] <= look[1] or draw.random() < 0.5))


def drawn_claim(draw, name, many, most=5):
    """A drawn valid claim with this word, about as often true as not."""
    table = helper.drawn_table(draw, many, most)
    waits = helper.drawn_waits(draw, many, 3)
    if name == "between":
        more = {draw.choice(helper.looks(many)) for _ in range(draw.randint(0, 3))}
        looks = helper.closed(table) if draw.random() < 0.6 else set(table)
        looks = looks - {draw.choice(helper.looks(many))} if draw.random() < 0.3 else looks
        return (name, many, table, tuple(sorted(looks | more)))
    if name == "brings" and draw.random() < 0.6:
        table = all_down(draw, many)
        waits = waits if draw.random() < 0.3 else ()
    if name == "none" and draw.random() < 0.6:
        between = [look for look in helper.looks(many) if look[0] != look[1]]
        orders = [draw.choice(helper.orders(many)) for _ in range(2)]
        table = {look for order in orders for look in ((1, 0, order), (0, 1, helper.flip(order)))}
        table = tuple(sorted(table | {draw.choice(between) for _ in range(2)}))
        waits = tuple(sorted(set(waits) | set(orders[:draw.randint(0, 2)])))
    if name == "full" and many == 1 and draw.random() < 0.6:
        looks, table = list(helper.looks(1)), []
        draw.shuffle(looks)
        for look in looks:
            if helper.safe(tuple(table) + (look,)):
                table.append(look)
        table = tuple(sorted(table if draw.random() < 0.8 else table[1:]))
    if name == "mend":
        options = drawn_options(draw, many, table, draw.choice(((0, 1, 2), (1, 5), (3,))))
        claim = (name, many, table, waits, options)
        costs = [cost(options, some) for some in all_choices(options) if helper.calm(*changed(claim + (0,), some))]
        due = min(costs) if costs else None
        return claim + (due if draw.random() < 0.4 else draw.choice((None, 0, 1, 2, 3, 5, 8, 400)),)
    return (name, many, table) + ((waits,) if name in ("calm", "brings", "none") else ())


ODD = (True, False, None, 0, 1, 2, -1, "shown", "safe", "", "still", (), [], {}, ("ring",), {"safe": 1}, [1], (0, 1),
       10 ** 40, 10 ** 40 + 1, (None,), "ab", ((),))


def places_in(value, most=4000):
    """The ways to all parts of nested tuples, the whole one first."""
    found, left = [], [((), value)]
    while left and len(found) < most:
        way, part = left.pop()
        found.append(way)
        if type(part) is tuple:
            left += [(way + (at,), inner) for at, inner in enumerate(part)]
    return found


def part_at(value, way):
    for at in way:
        value = value[at]
    return value


def put_at(value, way, new):
    if not way:
        return new
    return value[:way[0]] + (put_at(value[way[0]], way[1:], new),) + value[way[0] + 1:]


def bent(draw, value, odd=ODD):
    """The value with one of its parts, at any depth, bent."""
    ways = places_in(value)
    depth = draw.randint(0, max(map(len, ways)))
    way = draw.choice([way for way in ways if len(way) >= depth] if draw.random() < 0.5 else ways)
    part = part_at(value, way)
    changes = [draw.choice(odd)]
    if type(part) is int:
        changes += [part + 1, part - 1, bool(part)]
    if type(part) is tuple:
        changes += [list(part), part + (draw.choice(odd),)]
        if part:
            at = draw.randrange(len(part))
            other = draw.randrange(len(part))
            swapped = list(part)
            swapped[at], swapped[other] = swapped[other], swapped[at]
            changes += [part[:at] + part[at + 1:], part[:at] + part[at:at + 1] + part[at:], tuple(swapped), part[::-1]]
            changes += [part[:at] + part[at + 1:], part[at + 1:] + part[:at + 1]]
    return put_at(value, way, draw.choice(changes))
