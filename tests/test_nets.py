"""nevergoback.nets, by points 17 and 18 and the interface."""

import itertools
import random
import time
import unittest

import helper
from nevergoback.errors import (
    CannotGo, CannotHop, InvalidLinks, InvalidTable, InvalidWaits, NothingDone, Refused, UnknownName)
from nevergoback.nets import Net
from nevergoback.texts import parse_conditions

OWN = parse_conditions(2, "old old: v1 < u1\nold new: v1 < u1\nnew old: v2 < u2\nnew new: v2 < u2\n")
NEARER = tuple(look[2] for look in parse_conditions(2, "old old: v2 < u2\n"))
DOWN = tuple((s, t, (1, 0)) for s in (0, 1) for t in (0, 1))
LINKS = (("a", None, (1, 5)), ("b", "a", (1, 1)), ("b", None, (9, 2)))
# Values of all kinds that are no name and no packet of most nets.
ODD = (None, True, False, 0, 1, -1, 7, "", "A", "zz", "a ", (), ("a",), [], ["a"], {}, {"a": 1}, 10 ** 50, "abcdefghi")


class Model:
    """A net as the points tell it, worked out anew each time from the deeds."""

    def __init__(self, many, table, waits, links):
        self.made = (many, table, waits, links)
        self.table, self.waits = table, waits
        self.numbers = helper.distances(many, links)
        self.linked = helper.neighbours(links)
        self.deeds = []

    def gone(self):
        return {deed[1] for deed in self.deeds if deed[0] == "go"}

    def path(self, packet):
        return tuple(deed[2] for deed in self.deeds if deed[0] != "go" and deed[1] == packet)

    def packets(self):
        return {deed[1] for deed in self.deeds if deed[0] == "put"}

    def node(self, name):
        return (int(name in self.gone()),) + self.numbers[name]

    def neighbours(self, name):
        return tuple(sorted(other for other in self.linked[name] if other is not None))

    def waited_for(self, name):
        gone = self.gone()
        if name in gone:
            return ()
        return tuple(other for other in self.neighbours(name) if other not in gone and
                     helper.rank(self.numbers[name] + self.numbers[other]) in self.waits)

    def ways_on(self, name):
        return tuple(other for other in self.neighbours(name)
                     if helper.look(self.node(name), self.node(other)) in self.table)

    def error(self, deed):
        """The name of the error that a deed raises, or None."""
        if deed[0] == "go":
            if type(deed[1]) is not str or deed[1] not in self.numbers:
                return "UnknownName"
            return "CannotGo" if self.waited_for(deed[1]) or deed[1] in self.gone() else None
        packet, name = deed[1:]
        known = type(packet) is int and packet in self.packets()
        if deed[0] == "put":
            if type(name) is not str or name not in self.numbers:
                return "UnknownName"
            return "CannotHop" if type(packet) is not int or packet < 0 or known else None
        if not known or self.path(packet)[-1] is None:
            return "CannotHop"
        at = self.path(packet)[-1]
        can = None in self.linked[at] if name is None else type(name) is str and name in self.ways_on(at)
        return None if can else "CannotHop"

    def ring_sizes(self):
        """The fewest names of a ring, or None: all rounds of so many hops."""
        ways = {name: set(self.ways_on(name)) for name in self.numbers}
        for size in range(2, len(ways) + 1):
            for start in ways:
                ends = {start}
                for _ in range(size):
                    ends = {other for name in ends for other in ways[name]}
                if start in ends:
                    return size
        return None


def do(net, deed):
    """Does a deed in a net, and returns the name of the error, or None."""
    try:
        found = {"go": net.go, "put": net.put, "hop": net.hop}[deed[0]](*deed[1:])
    except (UnknownName, CannotGo, CannotHop) as error:
        return type(error).__name__
    assert found is None
    return None


def drawn_net(draw, size=None):
    """A drawn net and its model."""
    many = draw.choice((1, 2))
    if draw.random() < 0.3:
        many, table, waits = 2, OWN, draw.choice(((), NEARER))
    else:
        table = helper.drawn_table(draw, many, draw.choice((4, 12, 40)))
        waits = helper.drawn_waits(draw, many, draw.choice((0, 2, 5)))
    links = list(helper.drawn_links(draw, many, size or draw.randint(1, 6)))
    draw.shuffle(links)
    links = tuple((other, name, lengths) if other is not None and draw.random() < 0.5 else (name, other, lengths)
                  for name, other, lengths in links)
    made = (many, table, waits, links)
    return Net(*made), Model(*made)


def drawn_deed(draw, model):
    names = sorted(model.numbers) + [None]
    word = draw.choice(("go", "put", "hop", "hop", "hop"))
    packets = sorted(model.packets()) or [0]
    if draw.random() < 0.1:
        odd = draw.choice(ODD), draw.choice(ODD)
        return (word,) + odd[:1 if word == "go" else 2]
    if word == "go":
        return (word, draw.choice(names[:-1]))
    if word == "put":
        return (word, draw.choice((0, 1, 2, 3, 10 ** 30)), draw.choice(names[:-1]))
    packet = draw.choice(packets)
    at = model.path(packet)[-1] if model.path(packet) else None
    ways = model.ways_on(at) if at is not None else ()
    return (word, packet, draw.choice(ways) if ways and draw.random() < 0.7 else draw.choice(names))


class Case(unittest.TestCase):
    def compare(self, net, model):
        """All that a net tells, and what the model tells."""
        names = tuple(sorted(model.numbers))
        gone = model.gone()
        self.assertEqual(net.names(), names)
        for name in names:
            self.assertEqual(net.numbers(name), model.numbers[name])
            self.assertEqual(net.standing(name), int(name in gone))
            self.assertEqual(net.node(name), model.node(name))
            self.assertEqual(net.neighbours(name), model.neighbours(name))
            self.assertEqual(net.waited_for(name), model.waited_for(name))
            self.assertEqual(net.ways_on(name), model.ways_on(name))
        self.assertEqual(net.mixture(), tuple(sorted(gone)))
        left = [name for name in names if name not in gone]
        self.assertIs(net.is_still(), bool(left) and all(model.waited_for(name) for name in left))
        self.assertEqual(net.left_empty(), tuple(
            name for name in names if None not in model.linked[name] and not model.ways_on(name)))
        self.assertEqual(net.deeds(), tuple(model.deeds))
        self.assertEqual(len(net), len(model.deeds))
        for packet in model.packets():
            self.assertEqual(net.path(packet), model.path(packet))
        self.compare_ring(net, model)
        for told in (net.names(), net.mixture(), net.left_empty(), net.deeds()):
            self.assertIs(type(told), tuple)

    def compare_ring(self, net, model):
        ring, size = net.ring(), model.ring_sizes()
        if size is None:
            self.assertIsNone(ring)
            return
        self.assertIs(type(ring), tuple)
        self.assertEqual((len(ring), len(set(ring))), (size, size))
        for one, other in zip(ring, ring[1:] + ring[:1]):
            self.assertIn(other, model.ways_on(one))


class Constructor(unittest.TestCase):
    def refused(self, error, *made):
        with self.assertRaises(error) as caught:
            Net(*made)
        self.assertIsInstance(caught.exception, ValueError)
        return caught.exception.index

    def test_errors_in_their_order(self):
        self.assertIsNone(self.refused(InvalidTable, 1, list(DOWN), [], []))
        self.assertEqual(self.refused(InvalidTable, 1, DOWN[::-1], ((1, 1),), ()), 1)
        self.assertEqual(self.refused(InvalidTable, 2, DOWN, (), ()), 0)
        self.assertIsNone(self.refused(InvalidWaits, 1, DOWN, None, ()))
        self.assertEqual(self.refused(InvalidWaits, 1, DOWN, ((0, 1), (0, 1)), None), 1)
        self.assertIsNone(self.refused(InvalidLinks, 1, DOWN, ((1, 0),), None))

    def test_what_is_no_tuple_of_1_to_2000(self):
        for value in (None, (), [], list(LINKS), "a", 0, True, {}, {"a": 1}, ((),) * 2001):
            self.assertIsNone(self.refused(InvalidLinks, 2, OWN, (), value))
        names = ["".join(pair) for pair in itertools.product("abcdefghijklmnopqrstuvwxyz", repeat=3)]
        links = tuple((name, None, (1,)) for name in names[:2001])
        self.assertIsNone(self.refused(InvalidLinks, 1, DOWN, (), links))
        self.assertEqual(len(Net(1, DOWN, (), links[:2000]).names()), 2000)

    def test_links_at_fault_at_several_places(self):
        wrong = [None, (), 5, "abc", ["c", None, (1, 1)], ("c", None), ("c", None, (1, 1), 1), ("c", None, (1,)),
                 ("c", None, (1, 1, 1)), ("c", None, [1, 1]), ("c", None, (1, 0)), ("c", None, (-1, 1)),
                 ("c", None, (True, 1)), ("c", None, (1, "1")), ("c", None, (1, 10 ** 40 + 1)), ("c", None, None),
                 ("", None, (1, 1)), ("C", None, (1, 1)), ("abcdefghi", None, (1, 1)), ("c1", None, (1, 1)),
                 ("c ", None, (1, 1)), (None, "c", (1, 1)), (None, None, (1, 1)), ("c", "c", (1, 1)), ("c", "", (1, 1)),
                 ("c", "C", (1, 1)), ("c", 0, (1, 1)), ("c", False, (1, 1)), (["c"], None, (1, 1)),
                 ("c", ["a"], (1, 1)),
                 ("c", ("a",), (1, 1)), (("c",), "a", (1, 1)), ("c", {}, (1, 1)), (5, None, (1, 1)),
                 (True, "a", (1, 1)),
                 ("a", None, (2, 2)), ("a", "b", (3, 3)), ("b", "a", (1, 1)), ("b", None, (9, 2)),
                 ("\u00e4", None, (1, 1)),
                 ("c\n", None, (1, 1)), ("a-b", None, (1, 1))]
        draw = random.Random(961)
        for link in wrong:
            self.assertEqual(self.refused(InvalidLinks, 2, OWN, (), LINKS + (link,)), 3, link)
            self.assertEqual(self.refused(InvalidLinks, 2, OWN, (), LINKS + (link, draw.choice(wrong))), 3)
            self.assertEqual(self.refused(InvalidLinks, 2, OWN, (), LINKS + (("c", "a", (1, 1)), link)), 4)
        self.assertEqual(self.refused(InvalidLinks, 2, OWN, (), (None,) + LINKS), 0)

    def test_the_same_ends_told_from_either_end(self):
        links = (("a", None, (1,)), ("a", "b", (1,)), ("c", "b", (1,)))
        for again in (("a", "b", (2,)), ("b", "a", (1,)), ("b", "c", (1,)), ("c", "b", (1,)), ("a", None, (7,))):
            self.assertEqual(self.refused(InvalidLinks, 1, DOWN, (), links + (again,)), 3)
        self.assertEqual(self.refused(InvalidLinks, 1, DOWN, (), links[:2] + links[1:2] + links[2:]), 2)

    def test_names_without_a_way_to_the_target(self):
        for links in ((("a", "b", (1,)),), (("a", None, (1,)), ("b", "c", (1,))),
                      (("b", "c", (1,)), ("a", None, (1,)), ("c", "d", (1,)), ("e", "a", (1,)))):
            self.assertEqual(self.refused(InvalidLinks, 1, DOWN, (), links), len(links))
        # A link at fault comes first.
        self.assertEqual(self.refused(InvalidLinks, 1, DOWN, (), (("a", "b", (1,)), ("c", "c", (1,)))), 1)

    def test_names_and_lengths_at_their_edges(self):
        net = Net(1, (), (), (("abcdefgh", None, (10 ** 40,)), ("z", "abcdefgh", (10 ** 40,)), ("az", "z", (1,))))
        self.assertEqual(net.names(), ("abcdefgh", "az", "z"))
        self.assertEqual(net.numbers("az"), (2 * 10 ** 40 + 1,))

    def test_by_names(self):
        net = Net(links=LINKS, waits=NEARER, table=OWN, many=2)
        self.assertEqual(net, Net(2, OWN, NEARER, LINKS))


class Telling(Case):
    def test_example_of_the_interface(self):
        net = Net(2, OWN, NEARER, LINKS)
        first = (net.numbers("a"), net.waited_for("a"), net.ways_on("b"))
        net += (("go", "b"), ("go", "a"))
        self.assertEqual((first, net.ways_on("a"), net.ring()), (((1, 3), ('b',), ('a',)), ('b',), None))

    def test_numbers_by_links_in_any_order(self):
        draw = random.Random(962)
        for _ in range(60):
            many = draw.choice((1, 2))
            links = list(helper.drawn_links(draw, many, draw.randint(1, 6)))
            due = helper.distances(many, links)
            for _ in range(3):
                draw.shuffle(links)
                told = tuple((link[1], link[0], link[2]) if link[1] and draw.random() < 0.5 else link for link in links)
                net = Net(many, (), (), told)
                self.assertEqual({name: net.numbers(name) for name in net.names()}, due)

    def test_great_lengths(self):
        great = 10 ** 40
        net = Net(2, (), (), (("a", None, (great, 1)), ("b", "a", (great, great)), ("b", None, (great, 2)),
                              ("c", "b", (1, great))))
        self.assertEqual([net.numbers(name) for name in "abc"], [(great, 1), (great, 2), (great + 1, great + 2)])

    def test_a_ring_of_names(self):
        # Around the target, each hands on by the old numbers or by the new ones.
        net = Net(2, OWN, (), (("a", None, (1, 9)), ("b", None, (2, 1)), ("a", "b", (9, 9))))
        self.assertIsNone(net.ring())
        net.go("a")
        self.assertEqual(sorted(net.ring()), ["a", "b"])
        net.go("b")
        self.assertIsNone(net.ring())

    def test_a_shortest_ring(self):
        up = ((0, 0, (0, 1)), (0, 1, (1, 0)), (1, 0, (1, 0)))
        names = "abcdefg"
        links = [(name, None, (at + 1,)) for at, name in enumerate(names[:6])] + [("g", None, (4,))]
        links += [(names[at], names[at + 1], (10,)) for at in range(5)] + [("f", "g", (10,)), ("g", "a", (10,))]
        net = Net(1, up, (), tuple(links))
        self.assertIsNone(net.ring())
        net.go("g")
        self.assertEqual(len(net.ring()), 7)
        net = Net(1, up, (), tuple(links) + (("b", "e", (10,)),))
        net.go("g")
        self.assertEqual(len(net.ring()), 5)

    def test_a_shortest_one_of_several_rings(self):
        up = ((0, 0, (0, 1)), (0, 1, (1, 0)), (1, 0, (1, 0)))
        for sizes in ((3, 5), (5, 3), (4, 3, 6), (3, 3), (6, 4, 5), (7, 6, 5, 4)):
            rows = ["".join(letters) for letters in itertools.product("abcdefgh", "abcdefg")]
            links, last = [], []
            for letter, size in zip("abcdefgh", sizes):
                names = [name for name in rows if name[0] == letter][:size]
                links += [(name, None, (2 * at + 1,)) for at, name in enumerate(names[:-1])] + [(names[-1], None, (2,))]
                links += [(one, other, (20,)) for one, other in zip(names, names[1:] + names[:1])]
                last.append(names[-1])
            made = (1, up, (), tuple(links))
            net, model = Net(*made), Model(*made)
            for name in last:
                self.compare_ring(net, model)
                net.go(name)
                model.deeds.append(("go", name))
            self.compare_ring(net, model)
            self.assertEqual(len(net.ring()), min(sizes))

    def test_by_names(self):
        net = Net(2, OWN, NEARER, LINKS)
        self.assertEqual(net.numbers(name="a"), (1, 3))
        self.assertEqual(net.standing(name="a"), 0)
        self.assertEqual(net.node(name="b"), (0, 2, 2))
        self.assertEqual(net.neighbours(name="b"), ("a",))
        self.assertEqual(net.waited_for(name="a"), ("b",))
        self.assertEqual(net.ways_on(name="b"), ("a",))

    def test_unknown_names(self):
        net = Net(2, OWN, NEARER, LINKS)
        for value in ODD + ("c", "aa"):
            for method in (net.numbers, net.standing, net.node, net.neighbours, net.waited_for, net.ways_on, net.go):
                with self.assertRaises(UnknownName) as caught:
                    method(value)
                self.assertIs(caught.exception.value, value)
                self.assertIsInstance(caught.exception, LookupError)
            with self.assertRaises(UnknownName) as caught:
                net.put(0, value)
            self.assertIs(caught.exception.value, value)
            with self.assertRaises(UnknownName) as caught:
                net.put(value, value)
            self.assertIs(caught.exception.value, value)
        self.assertEqual((len(net), net.deeds()), (0, ()))

    def test_is_still(self):
        waits = ((0, 1), (1, 0))
        net = Net(1, (), waits, (("a", None, (1,)), ("a", "b", (1,))))
        self.assertIs(net.is_still(), True)
        with self.assertRaises(CannotGo) as caught:
            net.go("a")
        self.assertEqual(caught.exception.waited, ("b",))
        net = Net(1, (), waits, (("a", None, (1,)), ("a", "b", (1,)), ("c", None, (1,))))
        self.assertIs(net.is_still(), False)
        net.go("c")
        self.assertIs(net.is_still(), True)
        net = Net(1, (), (), LINKS1)
        for name in net.names():
            self.assertIs(net.is_still(), False)
            net.go(name)
        self.assertIs(net.is_still(), False)

    def test_left_empty(self):
        net = Net(1, DOWN[:1], (), (("a", None, (1,)), ("b", "a", (1,)), ("c", "b", (1,)), ("c", "d", (2,)),
            ("d", None, (9,))))
        self.assertEqual(net.left_empty(), ())
        net.go("c")
        self.assertEqual(net.left_empty(), ("c",))
        net.go("a")
        self.assertEqual(net.left_empty(), ("b", "c"))
        self.assertEqual(net.mixture(), ("a", "c"))


LINKS1 = (("a", None, (1,)), ("b", "a", (1,)), ("c", "b", (1,)))


class Deeds(Case):
    def test_go(self):
        net = Net(1, DOWN, ((1, 0),), LINKS1)
        for name, waited in (("b", ("a",)), ("c", ("b",))):
            with self.assertRaises(CannotGo) as caught:
                net.go(name)
            self.assertEqual(caught.exception.waited, waited)
            self.assertIsInstance(caught.exception, RuntimeError)
        self.assertIsNone(net.go("a"))
        with self.assertRaises(CannotGo) as caught:
            net.go("a")
        self.assertEqual(caught.exception.waited, ())
        self.assertIsNone(net.go(name="b"))
        net.go("c")
        self.assertEqual(net.deeds(), (("go", "a"), ("go", "b"), ("go", "c")))

    def test_packets(self):
        net = Net(1, DOWN, (), LINKS1)
        self.assertIsNone(net.put(1, "c"))
        for packet in (1, True, False, -1, None, "1", (1,), [1], {}, "c"):
            with self.assertRaises(CannotHop) as caught:
                net.put(packet, "a")
            self.assertIsInstance(caught.exception, RuntimeError)
        self.assertIsNone(net.put(name="a", packet=0))
        net.put(10 ** 50, "a")
        self.assertEqual(net.path(1), ("c",))
        self.assertIsNone(net.hop(1, "b"))
        self.assertIsNone(net.hop(name="a", packet=1))
        for name in ODD[1:] + ("a", "b", "c", None)[:3]:
            with self.assertRaises(CannotHop):
                net.hop(1, name)
        self.assertIsNone(net.hop(1, None))
        self.assertEqual(net.path(1), ("c", "b", "a", None))
        # It stays at the target.
        for name in ODD + ("a", "b", "c"):
            with self.assertRaises(CannotHop):
                net.hop(1, name)
        for value in (True, False, 2, -1, None, "1", (1,), [1], {}):
            with self.assertRaises(UnknownName) as caught:
                net.path(value)
            self.assertIs(caught.exception.value, value)
            for name in ("a", None, [], 1):
                with self.assertRaises(CannotHop):
                    net.hop(value, name)
        self.assertEqual(net.path(packet=0), ("a",))

    def test_hops_to_whom_one_may_not_hand_on(self):
        net = Net(1, DOWN, (), LINKS1)
        net.put(0, "b")
        for name in ("c", "b", None):
            with self.assertRaises(CannotHop):
                net.hop(0, name)
        net.put(1, "c")
        with self.assertRaises(CannotHop):
            net.hop(1, "a")
        # A table does not ask whether the other one waits.
        net = Net(1, DOWN[:1], ((1, 0),), LINKS1)
        net.put(0, "c")
        net.hop(0, "b")
        net.go("a")
        with self.assertRaises(CannotHop):
            net.hop(0, "a")

    def test_drawn_deeds(self):
        draw = random.Random(963)
        words = set()
        for _ in range(150):
            net, model = drawn_net(draw)
            self.compare(net, model)
            for _ in range(draw.randint(5, 25)):
                deed = drawn_deed(draw, model)
                due = model.error(deed)
                before = net.deeds()
                self.assertEqual(do(net, deed), due, deed)
                words.add((deed[0], due))
                if due is None:
                    model.deeds.append(deed)
                else:
                    self.assertEqual(net.deeds(), before)
            self.compare(net, model)
        self.assertEqual(words, {("go", None), ("go", "CannotGo"), ("go", "UnknownName"), ("put", None),
            ("put", "CannotHop"),
                                 ("put", "UnknownName"), ("hop", None), ("hop", "CannotHop")})


class Undoing(Case):
    def test_nothing_done(self):
        net = Net(2, OWN, NEARER, LINKS)
        with self.assertRaises(NothingDone) as caught:
            net.undo()
        self.assertIsInstance(caught.exception, RuntimeError)

    def test_each_kind_of_deed(self):
        net = Net(1, DOWN, (), LINKS1)
        net += (("put", 3, "b"), ("hop", 3, "a"), ("hop", 3, None), ("go", "c"))
        self.assertIsNone(net.undo())
        self.assertEqual(net.mixture(), ())
        net.undo()
        self.assertEqual(net.path(3), ("b", "a"))
        net.undo()
        self.assertEqual(net.path(3), ("b",))
        net.undo()
        with self.assertRaises(UnknownName):
            net.path(3)
        self.assertEqual((net.deeds(), len(net)), ((), 0))
        with self.assertRaises(NothingDone):
            net.undo()
        net.put(3, "c")
        self.assertEqual(net.path(3), ("c",))

    def test_drawn_deeds_undone(self):
        draw = random.Random(964)
        for _ in range(60):
            net, model = drawn_net(draw)
            for _ in range(40):
                if draw.random() < 0.35:
                    if model.deeds:
                        net.undo()
                        model.deeds.pop()
                else:
                    deed = drawn_deed(draw, model)
                    if do(net, deed) is None:
                        model.deeds.append(deed)
            self.compare(net, model)
            while model.deeds:
                net.undo()
                model.deeds.pop()
            self.compare(net, model)
            self.assertEqual(net, Net(*model.made))
            with self.assertRaises(NothingDone):
                net.undo()


class InPlace(Case):
    def refused(self, net, deeds):
        before, other = net.deeds(), net
        with self.assertRaises(Refused) as caught:
            net += deeds
        self.assertIs(net, other)
        self.assertEqual(net.deeds(), before)
        self.assertIsInstance(caught.exception, RuntimeError)
        return caught.exception.index, caught.exception.reason

    def test_other_names_for_the_same_net_tell_the_same(self):
        net = Net(1, DOWN, (), LINKS1)
        other = net
        net += (("go", "a"), ("put", 0, "c"))
        self.assertIs(net, other)
        self.assertEqual(other.deeds(), (("go", "a"), ("put", 0, "c")))
        net += ()
        self.assertEqual(len(other), 2)

    def test_values_that_are_no_such_tuple(self):
        net = Net(1, DOWN, (), LINKS1)
        net.put(0, "c")
        go = ("go", "a")
        for deeds in (None, 5, True, "go", go, [go], {}, {"go": "a"}, (go, None), (go, ()), (go, ["go", "b"]),
                      (go, ("go",)),
                      (go, ("go", "b", "c")), (("put", 1),), (("put", 1, "a", "b"),), (("hop", 0),),
                      (("hop", 0, "b", 1),),
                      (go, ("Go", "b")), (go, ("undo",)), (go, (None, "b")), (go, (["go"], "b")), (go, ("", "b")),
                      (go, "go"),
                      (go, ({}, "b")), (go,) * 201, (("go", "zz"), ()), net):
            self.assertEqual(self.refused(net, deeds), (-1, None), deeds)
        self.assertEqual(net.mixture(), ())

    def test_the_first_that_raises_an_error(self):
        net = Net(1, DOWN, ((1, 0),), LINKS1)
        for deeds, due in (((("go", "b"),), (0, "CannotGo")), ((("go", "a"), ("go", "a")), (1, "CannotGo")),
                           ((("go", "a"), ("go", "b"), ("go", "z")), (2, "UnknownName")),
                           ((("go", []),), (0, "UnknownName")), ((("go", "a"), ("put", True, "a")), (1, "CannotHop")),
                           ((("put", True, "z"),), (0, "UnknownName")),
                           ((("put", 0, "a"), ("put", 0, "b")), (1, "CannotHop")),
                           ((("put", 0, "b"), ("hop", 0, "a"), ("hop", 0, "b")), (2, "CannotHop")),
                           ((("hop", {}, []), ("go", "z")), (0, "CannotHop"))):
            self.assertEqual(self.refused(net, deeds), due)
            self.assertEqual(net, Net(1, DOWN, ((1, 0),), LINKS1))
            self.compare(net, Model(1, DOWN, ((1, 0),), LINKS1))

    def test_200_and_201_deeds(self):
        net = Net(1, DOWN, (), LINKS1)
        puts = tuple(("put", packet, "a") for packet in range(201))
        self.assertEqual(self.refused(net, puts), (-1, None))
        self.assertEqual(self.refused(net, puts[:199] + (("go", "z"),)), (199, "UnknownName"))
        net += puts[:200]
        self.assertEqual(net.deeds(), puts[:200])
        net += puts[200:]
        self.assertEqual(len(net), 201)
        net.undo()
        self.assertEqual(net.deeds(), puts[:200])

    def test_drawn_deeds_all_or_none(self):
        draw = random.Random(965)
        seen = {True: 0, False: 0}
        for _ in range(150):
            net, model = drawn_net(draw)
            for _ in range(4):
                deeds, start = [], list(model.deeds)
                for _ in range(draw.randint(0, 8)):
                    deed = drawn_deed(draw, model)
                    reason = model.error(deed)
                    if reason is None or draw.random() < 0.2:
                        deeds.append(deed)
                        if reason is not None:
                            break
                        model.deeds.append(deed)
                else:
                    reason = None
                if deeds and reason is not None and model.error(deeds[-1]) == reason:
                    model.deeds[:] = start
                    self.assertEqual(self.refused(net, tuple(deeds)), (len(deeds) - 1, reason))
                    seen[False] += 1
                else:
                    net += tuple(deeds)
                    seen[True] += 1
                self.compare(net, model)
        self.assertGreater(min(seen.values()), 20)


class Twins(Case):
    def test_twin(self):
        draw = random.Random(966)
        for _ in range(60):
            net, model = drawn_net(draw)
            for _ in range(20):
                deed = drawn_deed(draw, model)
                if do(net, deed) is None:
                    model.deeds.append(deed)
            other = net.twin()
            self.assertIsNot(other, net)
            self.assertTrue(other == net and net == other)
            self.assertFalse(other != net)
            self.compare(other, model)
            before = net.deeds()
            net.put(77, net.names()[0])
            self.assertFalse(net == other)
            self.assertEqual(other.deeds(), before)
            net.undo()
            self.assertTrue(net == other)
            other.put(78, net.names()[0])
            self.assertFalse(net == other)
            with self.assertRaises(UnknownName):
                net.path(78)
            self.compare(net, model)

    def test_not_equal(self):
        net = Net(1, DOWN, (), LINKS1)
        for made in ((1, DOWN[:3], (), LINKS1), (1, DOWN, ((1, 0),), LINKS1), (1, DOWN, (), LINKS1[:2]),
                     (1, DOWN, (), LINKS1[::-1]), (1, DOWN, (), LINKS1[:2] + (("b", "c", (1,)),)),
                     (1, DOWN, (), LINKS1[:2] + (("c", "b", (2,)),)), (1, (), (), LINKS1)):
            self.assertFalse(net == Net(*made))
            self.assertTrue(net != Net(*made))
        self.assertTrue(net == Net(1, DOWN, (), tuple(LINKS1)))
        self.assertTrue(net == net)
        self.assertFalse(Net(1, (), (), (("a", None, (1,)),)) == Net(2, (), (), (("a", None, (1, 1)),)))
        for value in ODD + (LINKS1, net.deeds()):
            self.assertFalse(net == value)
            self.assertTrue(net != value)

    def test_deeds_in_another_order(self):
        one, other = Net(1, DOWN, (), LINKS1), Net(1, DOWN, (), LINKS1)
        one += (("go", "a"), ("go", "b"))
        other += (("go", "b"), ("go", "a"))
        self.assertFalse(one == other)
        for _ in range(2):
            one.undo()
            other.undo()
        self.assertTrue(one == other)


class InDueTime(unittest.TestCase):
    def names(self, count):
        rows = itertools.chain.from_iterable(
            itertools.product("abcdefghijklmnopqrstuvwxyz", repeat=size) for size in (1, 2, 3))
        return ["".join(row) for row in itertools.islice(rows, count)]

    def test_2000_links_and_5000_deeds(self):
        draw = random.Random(967)
        start = time.monotonic()
        names = self.names(700)
        ends = [(name, None) for name in names[:100]] + [(names[at], names[at - 100]) for at in range(100, 700)]
        more = {tuple(draw.sample(names, 2)) for _ in range(1400)}
        more = [pair for pair in more if pair[::-1] not in more and pair not in ends and pair[::-1] not in ends]
        ends = (ends + sorted(more))[:2000]
        self.assertGreater(len(ends), 1900)
        links = tuple((one, other, (draw.randint(1, 10 ** 9), draw.randint(1, 10 ** 9))) for one, other in ends)
        net = Net(2, OWN, NEARER, links)
        todo = list(names)
        while todo:
            for name in [name for name in todo if not net.waited_for(name)]:
                net.go(name)
            todo = [name for name in todo if not net.standing(name)]
            self.assertFalse(net.is_still())
            self.assertIsNone(net.ring())
            self.assertEqual(net.left_empty(), ())
        packet = 0
        while len(net) < 5000:
            net.put(packet, draw.choice(names))
            while net.path(packet)[-1] is not None and len(net) < 5000:
                ways = net.ways_on(net.path(packet)[-1])
                net.hop(packet, draw.choice(ways) if ways else None)
            packet += 1
        other = net.twin()
        self.assertTrue(other == net)
        for _ in range(5000):
            net.undo()
        self.assertEqual((len(net), len(other), len(other.deeds())), (0, 5000, 5000))
        self.assertLess(time.monotonic() - start, 25)

    def test_all_around_one(self):
        start = time.monotonic()
        names = self.names(1000)
        links = (("zzzz", None, (1,)),) + tuple((name, "zzzz", (at + 1,)) for at, name in enumerate(names))
        net = Net(1, DOWN, ((0, 1),), links)
        for _ in range(300):
            with self.assertRaises(CannotGo):
                net.go("zzzz")
        for name in names:
            net.go(name)
        net.go("zzzz")
        self.assertEqual(len(net.mixture()), 1001)
        self.assertLess(time.monotonic() - start, 20)


if __name__ == "__main__":
    unittest.main()
