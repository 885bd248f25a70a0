"""nevergoback.arrivals, by points 3 and 11 and the interface."""

import random
import time
import unittest

import helper
from nevergoback.arrivals import (
    brings, empty_handed, good_places, kind_of, kinds, lacking, leads_down, links_around)
from nevergoback.texts import parse_conditions
from nevergoback.waits import is_calm

# Each goes by the numbers of its own standing, and waits for all who are nearer by the new ones.
OWN = parse_conditions(2, "old old: v1 < u1\nold new: v1 < u1\nnew old: v2 < u2\nnew new: v2 < u2\n")
NEARER = tuple(look[2] for look in parse_conditions(2, "old old: v2 < u2\n"))
DOWN = tuple((s, t, (1, 0)) for s in (0, 1) for t in (0, 1))
KINDS = {
    1: ((0, (0,)), (1, (0,))),
    2: ((0, (0, 0)), (0, (0, 1)), (0, (1, 0)), (1, (0, 0)), (1, (0, 1)), (1, (1, 0))),
}


def down(look, place):
    return look[2][len(look[2]) // 2 + place] < look[2][place]


def drawn_plan(draw, many):
    """A plan that serves each kind at some place, mostly; some looks are taken out or put to it."""
    places = {kind: draw.randrange(many) for kind in KINDS[many]}
    if draw.random() < 0.5:
        places = {kind: places[KINDS[many][0]] for kind in places}
    rows = helper.orders(many)
    place = draw.randrange(many)
    nearer = [order for order in rows if order[many + place] < order[place]]
    waits = draw.choice(((), tuple(nearer), tuple(sorted(draw.sample(nearer, min(3, len(nearer)))))))
    table = {look for look in helper.looks(many) if down(look, places[helper.kind(look)])}
    if draw.random() < 0.5:
        table = {look for look in table if not helper.cut(waits, look)}
    for _ in range(draw.choice((0, 0, 1, 2, 5))):
        table -= set(draw.sample(sorted(table), min(1, len(table))))
    for _ in range(draw.choice((0, 0, 0, 1))):
        table.add(draw.choice(helper.looks(many)))
    return tuple(sorted(table)), waits


def drawn_plans(seed, count, many):
    draw = random.Random(seed)
    return [drawn_plan(draw, many) for _ in range(count)]


def lacked(many, table, waits, kind, place):
    return tuple(look for look in helper.looks(many) if helper.kind(look) == kind and down(look, place)
                 and look not in table and not helper.cut(waits, look))


class Kinds(unittest.TestCase):
    def test_all_kinds(self):
        self.assertEqual(kinds(1), KINDS[1])
        self.assertEqual(kinds(2), KINDS[2])
        self.assertTrue(helper.is_plain(kinds(2)))
        self.assertEqual(kinds(many=1), KINDS[1])

    def test_kind_of_all_looks(self):
        for many in (1, 2):
            for look in helper.looks(many):
                self.assertEqual(kind_of(look), helper.kind(look))
                self.assertIn(kind_of(look), KINDS[many])

    def test_kind_of_by_hand(self):
        self.assertEqual(kind_of((0, 1, (1, 0))), (0, (0,)))
        self.assertEqual(kind_of((1, 0, (3, 1, 0, 2))), (1, (1, 0)))
        self.assertEqual(kind_of((0, 1, (1, 1, 0, 2))), (0, (0, 0)))
        self.assertEqual(kind_of(look=(1, 1, (0, 2, 1, 3))), (1, (0, 1)))


class LeadsDown(unittest.TestCase):
    def test_one_number(self):
        for s in (0, 1):
            for t in (0, 1):
                self.assertIs(leads_down((s, t, (1, 0)), 0), True)
                self.assertIs(leads_down((s, t, (0, 0)), 0), False)
                self.assertIs(leads_down((s, t, (0, 1)), 0), False)

    def test_all_looks_of_two_numbers(self):
        for look in helper.looks(2):
            for place in (0, 1):
                self.assertIs(leads_down(look, place), down(look, place))

    def test_at_each_place_by_itself(self):
        self.assertIs(leads_down((0, 0, (1, 2, 0, 3)), 0), True)
        self.assertIs(leads_down((0, 0, (1, 2, 0, 3)), 1), False)
        self.assertIs(leads_down((0, 0, (1, 0, 2, 0)), 1), False)
        self.assertIs(leads_down(place=1, look=(0, 0, (0, 3, 1, 2))), True)


class Lacking(unittest.TestCase):
    def check(self, many, table, waits):
        for kind in KINDS[many]:
            for place in range(many):
                looks = lacking(many, table, waits, kind, place)
                self.assertEqual(looks, lacked(many, table, waits, kind, place))
                self.assertTrue(helper.is_plain(looks))

    def test_by_hand(self):
        self.assertEqual(lacking(1, (), (), (0, (0,)), 0), ((0, 0, (1, 0)), (0, 1, (1, 0))))
        self.assertEqual(lacking(1, (), (), (1, (0,)), 0), ((1, 0, (1, 0)), (1, 1, (1, 0))))
        self.assertEqual(lacking(1, DOWN[:1], (), (0, (0,)), 0), ((0, 1, (1, 0)),))
        self.assertEqual(lacking(1, DOWN, (), (0, (0,)), 0), ())
        self.assertEqual(lacking(1, DOWN[3:], ((1, 0),), (1, (0,)), 0), ())
        self.assertEqual(lacking(1, DOWN[:1], ((0, 1),), (0, (0,)), 0), ())
        self.assertEqual(lacking(1, DOWN[:1], ((1, 0),), (0, (0,)), 0), ((0, 1, (1, 0)),))

    def test_drawn_plans(self):
        for many in (1, 2):
            for table, waits in [((), ())] + drawn_plans(121, 25, many):
                self.check(many, table, waits)

    def test_by_names(self):
        self.assertEqual(lacking(place=0, kind=(0, (0,)), waits=(), table=DOWN[:1], many=1), ((0, 1, (1, 0)),))


class Brings(unittest.TestCase):
    def check(self, many, table, waits):
        told = good_places(many, table, waits)
        places = tuple(tuple(place for place in range(many) if not lacked(many, table, waits, kind, place))
                       for kind in KINDS[many])
        self.assertEqual(told, places)
        self.assertTrue(helper.is_plain(told))
        self.assertIs(brings(many, table, waits), is_calm(table, waits) and all(places))
        nodes = empty_handed(many, table, waits)
        if all(places):
            self.assertIsNone(nodes)
            return
        self.assertEqual(len(nodes), many + 1)
        self.assertTrue(helper.are_nodes(many, nodes))
        for place in range(many):
            look = helper.look(nodes[0], nodes[place + 1])
            self.assertLess(nodes[place + 1][1 + place], nodes[0][1 + place])
            self.assertNotIn(look, table)
            self.assertFalse(helper.cut(waits, look))

    def test_example_of_the_interface(self):
        self.assertEqual((brings(2, OWN, NEARER), good_places(1, ((0, 0, (1, 0)), (0, 1, (1, 0))), ())),
                         (True, ((0,), ())))

    def test_the_empty_table(self):
        self.assertEqual(good_places(1, (), ()), ((), ()))
        self.assertEqual(good_places(2, (), ()), ((),) * 6)
        self.assertIs(brings(1, (), ()), False)
        for many in (1, 2):
            self.check(many, (), ())
            self.check(many, (), helper.orders(many))

    def test_each_node_goes_by_its_own_standing(self):
        self.assertEqual(good_places(2, OWN, NEARER), ((0,),) * 3 + ((1,),) * 3)
        self.check(2, OWN, NEARER)
        self.check(2, OWN, ())
        for look in OWN[::9]:
            self.check(2, tuple(one for one in OWN if one != look), NEARER)

    def test_a_place_for_each_kind(self):
        self.assertEqual(good_places(1, DOWN, ()), ((0,), (0,)))
        self.assertIs(brings(1, DOWN, ()), True)
        self.assertIs(brings(1, DOWN[:3], ()), False)
        self.assertIs(brings(1, tuple(sorted(DOWN + ((1, 1, (0, 0)),))), ()), False)
        self.assertEqual(good_places(1, tuple(sorted(DOWN + ((1, 1, (0, 0)),))), ()), ((0,), (0,)))

    def test_all_looks_there_are(self):
        self.assertEqual(good_places(2, helper.looks(2), ()), ((0, 1),) * 6)
        self.assertIs(brings(2, helper.looks(2), ()), False)
        self.assertIsNone(empty_handed(2, helper.looks(2), ()))

    def test_a_plan_that_is_not_calm_may_be_empty_handed(self):
        table = ((0, 0, (0, 0)),)
        self.assertIs(is_calm(table, ()), False)
        self.check(1, table, ())
        self.assertIsNotNone(empty_handed(1, table, ()))
        self.check(1, (), ((0, 0), (0, 1), (1, 0)))

    def test_drawn_plans(self):
        answers = set()
        for many in (1, 2):
            for table, waits in drawn_plans(122, 70, many):
                self.check(many, table, waits)
                answers.add((many, is_calm(table, waits), all(good_places(many, table, waits))))
        self.assertGreaterEqual(answers, {(2, c, g) for c in (False, True) for g in (False, True)})

    def test_in_due_time(self):
        begin = time.perf_counter()
        for table, waits in drawn_plans(123, 10, 2):
            brings(2, table, waits)
        self.assertLess(time.perf_counter() - begin, 20)

    def test_by_names(self):
        self.assertEqual(good_places(waits=(), table=DOWN, many=1), ((0,), (0,)))
        self.assertIs(brings(waits=(), table=DOWN, many=1), True)
        self.assertIsNone(empty_handed(waits=(), table=DOWN, many=1))


class LinksAround(unittest.TestCase):
    def check(self, many, nodes):
        links = links_around(nodes)
        names = ("a", "b", "c")[:many + 1]
        self.assertEqual(helper.distances(many, links), {name: node[1:] for name, node in zip(names, nodes)})
        self.assertEqual({link[:2] for link in links},
                         {("a", name) for name in names[1:]} | {(name, None) for name in names[1:]})
        self.assertEqual(len(links), 2 * many)
        greatest = max(number for node in nodes for number in node[1:])
        for one, other, lengths in links:
            self.assertTrue(helper.is_plain(lengths))
            if other is None:
                self.assertEqual(lengths, nodes[names.index(one)][1:])
            else:
                at = names.index(other)
                self.assertEqual(lengths, tuple(
                    nodes[0][1 + place] - nodes[at][1 + place] if place == at - 1 else greatest
                    for place in range(many)))
        self.assertIs(type(links), tuple)

    def test_by_hand(self):
        self.assertEqual(sorted(links_around(((0, 5), (1, 3))), key=str), [("a", "b", (2,)), ("b", None, (3,))])
        self.assertEqual(sorted(links_around(((0, 5, 4), (1, 3, 9), (0, 8, 2))), key=str), [
            ("a", "b", (2, 9)), ("a", "c", (9, 2)), ("b", None, (3, 9)), ("c", None, (8, 2))])

    def test_drawn_nodes(self):
        draw = random.Random(124)
        numbers = [1, 2, 3, 4, 10 ** 30 - 1, 10 ** 30]
        for _ in range(200):
            many = draw.choice((1, 2))
            nodes = []
            while not nodes or any(nodes[place + 1][1 + place] >= nodes[0][1 + place] for place in range(many)):
                nodes = [(draw.choice((0, 1)),) + tuple(draw.choice(numbers) for _ in range(many))
                         for _ in range(many + 1)]
            self.check(many, tuple(nodes))

    def test_by_name(self):
        self.assertEqual(len(links_around(nodes=((0, 5), (1, 3)))), 2)


class Nets(unittest.TestCase):
    """Small nets in which nodes go on as they may, in all orders."""

    def test_a_plan_that_brings_leaves_nobody_empty_handed(self):
        draw = random.Random(125)
        for many in (1, 2):
            plans = [plan for plan in drawn_plans(126, 120, many) if brings(many, *plan)]
            self.assertGreater(len(plans), 15)
            for table, waits in plans + [(OWN, NEARER)] * (10 * (many - 1)):
                going = helper.drawn_going(draw, many, waits, draw.randint(2, 5))
                for gone in going.mixtures():
                    self.assertFalse(going.stands_still(gone))
                    self.assertFalse(going.goes_round(gone, table))
                    self.assertFalse(going.is_empty(gone, table))

    def test_a_packet_is_at_the_target_after_few_hops(self):
        draw = random.Random(127)
        for _ in range(40):
            going = helper.drawn_going(draw, 2, NEARER, 5)
            gone, at, count = frozenset(), draw.choice("abcde"), 0
            while at is not None:
                ready = going.ready(gone)
                if ready and draw.random() < 0.3:
                    gone |= {draw.choice(ready)}
                ways = sorted(going.ways_on(gone, at, OWN)) + [None] * (at in going.at_target)
                at, count = draw.choice(ways), count + 1
                self.assertLessEqual(count, 25)

    def test_the_nodes_of_a_plan_that_brings_not_come_about_around_the_first_one(self):
        seen = 0
        for many in (1, 2):
            for table, waits in drawn_plans(128, 60, many):
                nodes = empty_handed(many, table, waits)
                if nodes is None or not is_calm((), waits):
                    continue
                seen += 1
                links = links_around(nodes)
                going = helper.Going(helper.distances(many, links), helper.neighbours(links), waits)
                gone = frozenset(name for name, node in zip("abc", nodes) if node[0] == 1)
                self.assertIn(gone, going.mixtures())
                self.assertEqual(going.ways_on(gone, "a", table), set())
        self.assertGreater(seen, 20)


if __name__ == "__main__":
    unittest.main()
