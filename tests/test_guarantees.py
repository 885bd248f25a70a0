"""Point 3: what the program says of tables and plans holds in nets, told by all modules together."""

import random
import unittest

import by_words
import helper
from nevergoback.arrivals import brings, links_around
from nevergoback.checker import first_fault
from nevergoback.claims import decide
from nevergoback.closures import is_safe
from nevergoback.errors import CannotGo
from nevergoback.full import filled
from nevergoback.journeys import coming_back, is_once
from nevergoback.nets import Net
from nevergoback.replays import deeds_for, links_for, replayed
from nevergoback.texts import parse_conditions
from nevergoback.trials import first_waits
from nevergoback.waits import is_calm, kept_table

OWN = parse_conditions(2, "old old: v1 < u1\nold new: v1 < u1\nnew old: v2 < u2\nnew new: v2 < u2\n")
NEARER = tuple(look[2] for look in parse_conditions(2, "old old: v2 < u2\n"))
NAMES = "abcdefghijklmnopqrstuvwxyz"


def drawn_net(draw, many, table, waits):
    """A drawn net, and the names with a link to the target."""
    links = helper.drawn_links(draw, many, draw.randint(2, 6))
    return Net(many, table, waits, links), {name for name, other, _ in links if other is None}


def ready(net):
    """The names that may go on."""
    return [name for name in net.names() if net.standing(name) == 0 and not net.waited_for(name)]


def all_go(draw, net):
    """Lets all nodes go on in a drawn order as they may, with a pause before each and at the end."""
    yield
    while ready(net):
        net.go(draw.choice(ready(net)))
        yield


def wander(draw, net, ends, packet, most):
    """Hands a packet on, whenever it can be, while nodes go on, up to one hop more than told."""
    net.put(packet, draw.choice(net.names()))
    while net.path(packet)[-1] is not None and len(net.path(packet)) <= most + 1:
        at = net.path(packet)[-1]
        ways = list(net.ways_on(at)) * 3 + [None] * (at in ends)
        if ready(net) and (not ways or draw.random() < 0.4):
            net.go(draw.choice(ready(net)))
        elif ways:
            net.hop(packet, draw.choice(ways))
        else:
            return


def safe_table(draw, many):
    """A drawn table that is safe, with as many looks as can be or with some of these."""
    table = helper.drawn_table(draw, many, 6)
    if not is_safe(table):
        return ()
    table = filled(many, table)
    return table if draw.random() < 0.5 else tuple(sorted(draw.sample(table, draw.randint(0, len(table)))))


def calm_plan(draw, many):
    """A drawn calm plan."""
    if many == 2 and draw.random() < 0.3:
        return OWN, NEARER
    while True:
        waits = helper.drawn_waits(draw, many, 4)
        table = helper.drawn_table(draw, many, 8)
        if draw.random() < 0.5:
            between = [look for look in helper.looks(many) if look[0] != look[1]]
            table = tuple(sorted(set(table) | {draw.choice(between) for _ in range(3)}))
            waits = first_waits(many, table, helper.orders(many), tries=5000) or waits
        if is_calm(table, waits):
            return table, waits


class Safe(unittest.TestCase):
    def test_a_safe_table_lets_no_packet_go_round(self):
        draw = random.Random(981)
        for _ in range(120):
            many = draw.choice((1, 2))
            net, _ = drawn_net(draw, many, safe_table(draw, many), ())
            for _ in all_go(draw, net):
                self.assertIsNone(net.ring())

    def test_one_that_is_not_safe_does_in_the_net_of_its_ring(self):
        draw = random.Random(982)
        seen = 0
        while seen < 60:
            many = draw.choice((1, 2))
            claim = ("safe", many, helper.drawn_table(draw, many, 7))
            verdict, _, ring = decide(claim)
            if verdict == "broken":
                self.assertIsNone(first_fault((verdict, claim, ring)))
                self.goes_round(replayed(many, claim[2], (), ring), ring)
                seen += 1

    def goes_round(self, net, ring):
        self.assertEqual(tuple(net.node(name) for name in NAMES[:len(ring)]), ring)
        self.assertIsNotNone(net.ring())
        net.put(0, "a")
        for name in NAMES[1:len(ring)] + "a":
            net.hop(0, name)
        self.assertEqual(net.path(0)[0], net.path(0)[-1])

    def test_calm_plans(self):
        draw = random.Random(983)
        for _ in range(150):
            many = draw.choice((1, 2))
            net, ends = drawn_net(draw, many, *calm_plan(draw, many))
            for _ in all_go(draw, net):
                self.assertFalse(net.is_still())
                self.assertIsNone(net.ring())
            self.assertEqual(net.mixture(), net.names())

    def test_no_packet_makes_more_than_n_times_n_hops(self):
        draw = random.Random(984)
        for _ in range(150):
            many = draw.choice((1, 2))
            net, ends = drawn_net(draw, many, *calm_plan(draw, many))
            most = len(net.names()) ** 2
            for packet in range(3):
                wander(draw, net, ends, packet, most)
                hops = [name for name in net.path(packet)[1:] if name is not None]
                self.assertLessEqual(len(hops), most)

    def test_plans_that_are_not_calm(self):
        draw = random.Random(985)
        words = []
        while min(words.count("still"), words.count("round")) < 40:
            many = draw.choice((1, 2))
            table, waits = helper.drawn_table(draw, many, 7), helper.drawn_waits(draw, many, 4)
            verdict, claim, paper = decide(("calm", many, table, waits))
            if verdict == "shown":
                continue
            word, ring = paper
            words.append(word)
            if word == "still":
                net = Net(many, table, waits, links_for(ring))
                self.assertTrue(net.is_still())
                for name in net.names():
                    self.assertTrue(net.waited_for(name))
                    with self.assertRaises(CannotGo):
                        net.go(name)
            else:
                self.assertIsNotNone(deeds_for(waits, ring))
                self.goes_round(replayed(many, table, waits, ring), ring)

    def test_other_rings_that_the_checker_accepts(self):
        draw = random.Random(986)
        seen = 0
        while seen < 60:
            many = draw.choice((1, 2))
            nodes = tuple(helper.drawn_crowd(draw, many, draw.randint(2, 6)))
            table = tuple(sorted(set(helper.ring_hops(nodes))))
            waits = helper.drawn_waits(draw, many, 3)
            self.goes_round(replayed(many, table, (), nodes), nodes)
            if first_fault(("broken", ("calm", many, table, waits), ("round", nodes))) is None:
                if helper.safe(helper.waiting(waits)):
                    self.goes_round(replayed(many, table, waits, nodes), nodes)
                    seen += 1
            self.assertEqual(first_fault(("broken", ("calm", many, table, waits), ("round", nodes))) is None,
                             set(kept_table(table, waits)) == set(table))


class Brings(unittest.TestCase):
    def bringing_plan(self, draw, many):
        while True:
            if many == 2 and draw.random() < 0.3:
                return OWN, NEARER
            place = draw.randrange(many)
            table = {look for look in helper.looks(many) if look[2][many + place] < look[2][place]}
            table = tuple(sorted(table | set(helper.drawn_table(draw, many, 2))))
            waits = helper.drawn_waits(draw, many, draw.choice((0, 3)))
            if brings(many, table, waits):
                return table, waits

    def test_each_packet_comes_to_the_target(self):
        draw = random.Random(987)
        for _ in range(120):
            many = draw.choice((1, 2))
            net, ends = drawn_net(draw, many, *self.bringing_plan(draw, many))
            most = len(net.names()) ** 2
            for packet in range(3):
                wander(draw, net, ends, packet, most)
                self.assertIsNone(net.path(packet)[-1])
                self.assertLessEqual(len(net.path(packet)) - 1, most)
            for _ in all_go(draw, net):
                self.assertEqual(net.left_empty(), ())

    def test_nodes_that_are_left_empty_in_their_net(self):
        draw = random.Random(988)
        seen = 0
        while seen < 80:
            many = draw.choice((1, 2))
            claim = by_words.drawn_claim(draw, "brings", many, 30)
            verdict, _, paper = decide(claim)
            if verdict == "shown" or paper[0] != "empty":
                continue
            seen += 1
            self.left_empty(many, claim, paper[1])

    def left_empty(self, many, claim, nodes):
        net = Net(many, claim[2], claim[3], links_around(nodes))
        for name, node in zip(NAMES, nodes):
            self.assertEqual(net.numbers(name), node[1:])
        gone = [name for name, node in zip(NAMES, nodes) if node[0] == 1]
        while gone:
            some = [name for name in gone if not net.waited_for(name)]
            self.assertTrue(some)
            net.go(some[0])
            gone.remove(some[0])
        self.assertEqual(tuple(net.node(name) for name in NAMES[:many + 1]), nodes)
        self.assertEqual(net.left_empty(), ("a",))
        self.assertEqual(net.ways_on("a"), ())

    def test_other_nodes_that_the_checker_accepts(self):
        draw = random.Random(989)
        seen = 0
        while seen < 80:
            many = draw.choice((1, 2))
            table, waits = helper.drawn_table(draw, many, 20), helper.drawn_waits(draw, many, 3)
            nodes = tuple((draw.choice((0, 1)),) + tuple(draw.randint(1,
                5) for _ in range(many)) for _ in range(many + 1))
            claim = ("brings", many, table, waits)
            if helper.safe(helper.waiting(waits)) and first_fault(("broken", claim, ("empty", nodes))) is None:
                self.left_empty(many, claim, nodes)
                seen += 1


class Once(unittest.TestCase):
    def test_no_packet_comes_to_one_node_twice(self):
        draw = random.Random(990)
        seen = 0
        while seen < 80:
            many = draw.choice((1, 2))
            table = helper.drawn_table(draw, many, 12)
            if draw.random() < 0.5:
                place = draw.randrange(many)
                table = tuple(look for look in helper.looks(many) if look[2][many + place] < look[2][place])
            if is_once(table):
                seen += 1
                net, ends = drawn_net(draw, many, table, ())
                for packet in range(4):
                    wander(draw, net, ends, packet, 40)
                    names = [name for name in net.path(packet) if name is not None]
                    self.assertEqual(len(names), len(set(names)))

    def test_by_the_kept_table_with_waits(self):
        draw = random.Random(991)
        seen = 0
        while seen < 60:
            many = draw.choice((1, 2))
            table, waits = helper.drawn_table(draw, many, 12), helper.drawn_waits(draw, many, 4)
            if not is_once(kept_table(table, waits)):
                continue
            seen += 1
            net, ends = drawn_net(draw, many, table, waits)
            for packet in range(4):
                wander(draw, net, ends, packet, 40)
                names = [name for name in net.path(packet) if name is not None]
                self.assertEqual(len(names), len(set(names)))

    def test_one_does_by_a_journey_that_comes_back(self):
        draw = random.Random(992)
        seen = 0
        while seen < 60:
            many = draw.choice((1, 2))
            table = helper.drawn_table(draw, many, 6)
            journey = coming_back(table)
            if journey is not None:
                self.travel(many, table, journey)
                seen += 1

    def travel(self, many, table, journey):
        """The net of the journey's nodes: the last one is the first one again."""
        nodes = tuple((0,) + visit[2:] for visit in journey[:-1])
        net = Net(many, table, (), links_for(nodes) if len(nodes) > 1 else ())
        names = NAMES[:len(nodes)] + "a"
        net.put(5, "a")
        for at, visit in enumerate(journey):
            if visit[0] > net.standing(names[at]):
                net.go(names[at])
            if at > 0:
                self.assertEqual(net.standing(names[at]), visit[0])
                net.hop(5, names[at])
            if at < len(journey) - 1 and visit[1] > net.standing(names[at]):
                net.go(names[at])
        self.assertEqual(net.path(5), tuple(names))


if __name__ == "__main__":
    unittest.main()
