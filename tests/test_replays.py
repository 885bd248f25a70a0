"""nevergoback.replays, by points 3 and 19 and the interface."""

import random
import time
import unittest

import helper
from nevergoback.closures import shortest_ring
from nevergoback.errors import NoRing
from nevergoback.nets import Net
from nevergoback.replays import deeds_for, links_for, replayed
from nevergoback.texts import parse_conditions
from nevergoback.walks import is_ring

OWN = parse_conditions(2, "old old: v1 < u1\nold new: v1 < u1\nnew old: v2 < u2\nnew new: v2 < u2\n")
NEARER = tuple(look[2] for look in parse_conditions(2, "old old: v2 < u2\n"))
LETTERS = "abcdefghijklmnopqrstuvwxyz"
NAMES = list(LETTERS) + [a + b for a in LETTERS for b in LETTERS] + ["a" + a + b for a in LETTERS for b in LETTERS]
# Up among old nodes, then down over a new one: rings of any number of nodes from three on.
AROUND = ((0, 0, (0, 1)), (0, 1, (1, 0)), (1, 0, (1, 0)))


def around(size):
    return tuple((0, at + 1) for at in range(size - 1)) + ((1, size // 2),)


def untold(links):
    """Links, whatever their order, and from whichever end they are told."""
    return {(frozenset(link[:2]), link[2]) for link in links}


def ring_links(nodes):
    """The links of point 19."""
    greatest = max(number for node in nodes for number in node[1:])
    found = {(frozenset((name, None)), node[1:]) for name, node in zip(NAMES, nodes)}
    for at in range(len(nodes)):
        ends = frozenset((NAMES[at], NAMES[(at + 1) % len(nodes)]))
        found.add((ends, (greatest,) * (len(nodes[0]) - 1)))
    return found


def rounds(waits, nodes):
    """The deeds in rounds, by trying who may go in each; None if they do not come about."""
    size, gone, deeds = len(nodes), set(), []
    due = {at for at in range(size) if nodes[at][0] == 1}
    while gone != due:
        ready = [at for at in sorted(due - gone) if not any(
            other not in gone and helper.look(nodes[at], nodes[other])[2] in waits
            for other in ((at + 1) % size, (at - 1) % size))]
        if not ready:
            return None
        gone |= set(ready)
        deeds += [("go", NAMES[at]) for at in ready]
    return tuple(deeds)


def drawn_ring(draw, many, size):
    """Drawn nodes, some alike, some with great numbers."""
    nodes = helper.drawn_crowd(draw, many, size)
    if draw.random() < 0.3:
        nodes[-1] = nodes[0]
    return tuple(nodes)


def table_of(nodes):
    return tuple(sorted(set(helper.ring_hops(nodes))))


class Links(unittest.TestCase):
    def check(self, nodes):
        links = links_for(nodes)
        self.assertTrue(all(type(link) is tuple and len(link) == 3 for link in links))
        self.assertEqual(len(links), 3 if len(nodes) == 2 else 2 * len(nodes))
        self.assertEqual(untold(links), ring_links(nodes))
        net = Net(len(nodes[0]) - 1, (), (), links)
        self.assertEqual(net.names(), tuple(sorted(NAMES[:len(nodes)])))
        for name, node in zip(NAMES, nodes):
            self.assertEqual(net.numbers(name), node[1:])

    def test_a_ring_of_two(self):
        self.check(((0, 2, 1), (1, 1, 2)))
        self.assertEqual(untold(links_for(((0, 2, 1), (1, 1, 2)))), {
            (frozenset(("a", None)), (2, 1)), (frozenset(("b", None)), (1, 2)), (frozenset(("a", "b")), (2, 2))})
        self.check(((0, 5), (0, 5)))

    def test_drawn_nodes(self):
        draw = random.Random(971)
        for size in (2, 2, 3, 3, 4, 5, 7, 26, 27, 28, 30, 53):
            for many in (1, 2):
                self.check(drawn_ring(draw, many, size))

    def test_names_behind_z(self):
        self.assertEqual(NAMES[25:29], ["z", "aa", "ab", "ac"])
        self.assertEqual(NAMES[700:704], ["zy", "zz", "aaa", "aab"])
        links = links_for(around(30))
        self.assertEqual({name for link in links for name in link[:2]}, set(NAMES[:30]) | {None})

    def test_great_numbers(self):
        self.check(((0, 10 ** 40, 1), (1, 1, 10 ** 40), (0, 10 ** 40, 10 ** 40)))

    def test_a_thousand_nodes(self):
        self.check(around(1000))
        self.check(((0, 3, 4), (1, 4, 3)) * 500)

    def test_by_name(self):
        self.assertEqual(len(links_for(nodes=around(3))), 6)


class Deeds(unittest.TestCase):
    def test_by_hand(self):
        nodes = ((1, 1), (1, 2), (0, 3), (1, 4), (1, 5))
        self.assertEqual(deeds_for((), nodes), (("go", "a"), ("go", "b"), ("go", "d"), ("go", "e")))
        # Each waits for those that are nearer.
        self.assertIsNone(deeds_for(((1, 0),), nodes))
        self.assertEqual(deeds_for(((1, 0),), nodes[:2] + ((0, 6),) + nodes[3:]), (
            ("go", "a"), ("go", "d"), ("go", "b"), ("go", "e")))
        # Each waits for those that are farther.
        self.assertEqual(deeds_for(((0, 1),), ((1, 1), (1, 2), (1, 3), (0, 1))),
                         (("go", "c"), ("go", "b"), ("go", "a")))
        self.assertEqual(deeds_for(((0, 1),), ((1, 5), (1, 1), (1, 2), (1, 5), (1, 1))), (
            ("go", "a"), ("go", "d"), ("go", "c"), ("go", "e"), ("go", "b")))
        self.assertEqual(deeds_for((), ((0, 1), (0, 2))), ())
        self.assertEqual(deeds_for(((0, 0),), ((0, 1), (0, 1))), ())
        self.assertIsNone(deeds_for(((0, 0),), ((1, 1), (1, 1))))
        self.assertIsNone(deeds_for(((0, 0),), ((1, 1), (0, 1))))
        self.assertEqual(deeds_for(((0, 1),), ((1, 2), (0, 1))), (("go", "a"),))

    def test_drawn_nodes_and_waits(self):
        draw = random.Random(972)
        found = []
        for _ in range(600):
            many = draw.choice((1, 2))
            nodes = drawn_ring(draw, many, draw.choice((2, 2, 3, 4, 5, 8, 30)))
            waits = helper.drawn_waits(draw, many, draw.choice((0, 2, 20)))
            deeds = deeds_for(waits, nodes)
            self.assertEqual(deeds, rounds(waits, nodes))
            found.append(deeds is None)
            if deeds is not None:
                self.do(many, waits, nodes, deeds)
            elif len(nodes) <= 5:
                going = helper.ring_going(nodes, waits)
                gone = frozenset(at for at, node in enumerate(nodes) if node[0] == 1)
                self.assertNotIn(gone, going.mixtures())
        self.assertGreater(min(found.count(True), found.count(False)), 100)

    def do(self, many, waits, nodes, deeds):
        net = Net(many, (), waits, links_for(nodes))
        net += deeds
        self.assertEqual(tuple(net.node(name) for name in NAMES[:len(nodes)]), nodes)

    def test_a_round_behind_the_other(self):
        nodes = tuple((1, at + 1) for at in range(1000))
        start = time.monotonic()
        self.assertEqual(deeds_for(((0, 1),), nodes), tuple(("go", name) for name in reversed(NAMES[:1000])))
        self.assertEqual(deeds_for(((1, 0),), nodes), tuple(("go", name) for name in NAMES[:1000]))
        self.assertEqual(deeds_for((), nodes), tuple(("go", name) for name in NAMES[:1000]))
        self.assertIsNone(deeds_for(((0, 0), (0, 1), (1, 0)), nodes))
        self.assertLess(time.monotonic() - start, 10)

    def test_by_names(self):
        self.assertEqual(deeds_for(nodes=((1, 2), (0, 1)), waits=()), (("go", "a"),))


class Replayed(unittest.TestCase):
    def check(self, many, table, waits, nodes):
        net = replayed(many, table, waits, nodes)
        self.assertEqual(tuple(net.node(name) for name in NAMES[:len(nodes)]), nodes)
        self.assertEqual(net.deeds(), deeds_for(waits, nodes))
        made = Net(many, table, waits, links_for(nodes))
        self.assertEqual(net.names(), made.names())
        for name in net.names():
            self.assertEqual(net.neighbours(name), made.neighbours(name))
        self.assertIsNotNone(net.ring())
        self.assertLessEqual(len(net.ring()), len(nodes))
        # A packet goes round by just these hops.
        net.put(0, "a")
        for name in NAMES[1:len(nodes)] + ["a"]:
            net.hop(0, name)
        self.assertEqual(net.path(0), tuple(NAMES[:len(nodes)] + ["a"]))
        return net

    def refused(self, many, table, waits, nodes):
        with self.assertRaises(NoRing) as caught:
            replayed(many, table, waits, nodes)
        self.assertIsInstance(caught.exception, RuntimeError)

    def test_example_of_the_interface(self):
        net = replayed(2, OWN, (), ((0, 2, 1), (1, 1, 2)))
        self.assertEqual((net.deeds(), net.numbers("a"), sorted(net.ring())), ((('go', 'b'),), (2, 1), ['a', 'b']))

    def test_rings_of_some_nodes(self):
        draw = random.Random(973)
        for size in (2, 2, 3, 4, 5, 8, 27, 30):
            for many in (1, 2):
                for _ in range(10):
                    nodes = drawn_ring(draw, many, size)
                    self.check(many, table_of(nodes), (), nodes)

    def test_rings_with_waits(self):
        draw = random.Random(974)
        found = []
        for _ in range(400):
            many = draw.choice((1, 2))
            nodes = drawn_ring(draw, many, draw.choice((2, 3, 4, 6)))
            waits = helper.drawn_waits(draw, many, 3)
            found.append(rounds(waits, nodes) is None)
            if found[-1]:
                self.refused(many, table_of(nodes), waits, nodes)
            else:
                self.check(many, table_of(nodes), waits, nodes)
        self.assertGreater(min(found.count(True), found.count(False)), 50)

    def test_alike_nodes(self):
        self.check(1, ((0, 0, (0, 0)),), (), ((0, 4), (0, 4)))
        self.check(1, ((1, 1, (0, 0)),), (), ((1, 4),) * 30)
        self.refused(1, ((1, 1, (0, 0)),), ((0, 0),), ((1, 4),) * 30)

    def test_no_ring(self):
        for nodes in (((0, 1), (0, 2)), ((0, 1), (0, 1), (0, 2)), around(5)[:-1], around(5)[::-1],
                      around(4) + ((0, 1),)):
            self.refused(1, AROUND, (), nodes)
        self.refused(1, (), (), around(4))
        self.refused(2, OWN, NEARER, ((0, 2, 1), (1, 1, 2)))

    def test_thirty_and_a_thousand_nodes(self):
        start = time.monotonic()
        for size in (30, 1000):
            net = self.check(1, AROUND, (), around(size))
            self.assertEqual(len(net.ring()), size)
        alike = ((0, 3, 4), (1, 4, 3)) * 500
        net = self.check(2, table_of(alike), (), alike)
        self.assertEqual(len(net.ring()), 2)
        self.assertEqual(len(net.mixture()), 500)
        self.assertLess(time.monotonic() - start, 15)

    def test_rings_that_the_program_finds(self):
        draw = random.Random(975)
        seen = 0
        for _ in range(300):
            many = draw.choice((1, 2))
            table = helper.drawn_table(draw, many, 7)
            ring = shortest_ring(table)
            if ring is not None:
                net = self.check(many, table, (), ring)
                self.assertTrue(is_ring(table, ring))
                # The net's ring is one of the table, too, so it is not shorter.
                self.assertEqual(len(net.ring()), len(ring))
                seen += 1
        self.assertGreater(seen, 50)

    def test_by_names(self):
        net = replayed(nodes=((0, 2, 1), (1, 1, 2)), waits=(), table=OWN, many=2)
        self.assertEqual(net.mixture(), ("b",))


if __name__ == "__main__":
    unittest.main()
