"""nevergoback.waits, by points 3 and 10 and the interface."""

import itertools
import random
import unittest

import helper
from nevergoback.texts import parse_conditions
from nevergoback.waits import harm, is_calm, is_cut, kept_table, waits_table

# Each goes by the numbers of its own standing, and waits for all who are nearer by the new ones.
OWN = parse_conditions(2, "old old: v1 < u1\nold new: v1 < u1\nnew old: v2 < u2\nnew new: v2 < u2\n")
NEARER = tuple(look[2] for look in parse_conditions(2, "old old: v2 < u2\n"))


def drawn_plans(seed, count, many, looks, orders):
    draw = random.Random(seed)
    return [(helper.drawn_table(draw, many, looks), helper.drawn_waits(draw, many, orders)) for _ in range(count)]


class WaitsTable(unittest.TestCase):
    def test_looks_of_old_nodes(self):
        self.assertEqual(waits_table(()), ())
        self.assertEqual(waits_table(((0, 1), (1, 0))), ((0, 0, (0, 1)), (0, 0, (1, 0))))

    def test_drawn_waits(self):
        draw = random.Random(111)
        for many in (1, 2):
            for _ in range(50):
                waits = helper.drawn_waits(draw, many, 8)
                table = waits_table(waits)
                self.assertEqual(table, tuple((0, 0, order) for order in waits))
                self.assertTrue(helper.is_plain(table))

    def test_by_name(self):
        self.assertEqual(waits_table(waits=((0, 0),)), ((0, 0, (0, 0)),))


class IsCut(unittest.TestCase):
    def test_the_order_and_the_turned_one_for_all_standings(self):
        for many in (1, 2):
            for order in helper.orders(many):
                for waits in ((order,), (helper.flip(order),)):
                    self.assertIs(is_cut(waits, (0, 0, order)), False)
                    self.assertIs(is_cut(waits, (1, 1, order)), False)
                    self.assertIs(is_cut(waits, (1, 0, order)), waits == (order,))
                    self.assertIs(is_cut(waits, (0, 1, order)), waits == (helper.flip(order),))

    def test_by_no_waits_nothing_is_cut(self):
        for look in helper.looks(1):
            self.assertIs(is_cut((), look), False)

    def test_one_number(self):
        self.assertIs(is_cut(((1, 0),), (1, 0, (1, 0))), True)
        self.assertIs(is_cut(((1, 0),), (1, 0, (0, 1))), False)
        self.assertIs(is_cut(((1, 0),), (0, 1, (0, 1))), True)
        self.assertIs(is_cut(((1, 0),), (0, 1, (1, 0))), False)
        self.assertIs(is_cut(((0, 0), (1, 0)), (0, 1, (0, 0))), True)

    def test_drawn_waits(self):
        draw = random.Random(112)
        for _ in range(60):
            waits = helper.drawn_waits(draw, 2, 8)
            for look in helper.looks(2):
                self.assertIs(is_cut(waits, look), helper.cut(waits, look))

    def test_by_names(self):
        self.assertIs(is_cut(look=(1, 0, (1, 0)), waits=((1, 0),)), True)


class KeptTable(unittest.TestCase):
    def test_by_hand(self):
        looks = helper.looks(1)
        self.assertEqual(kept_table(looks, ()), looks)
        self.assertEqual(kept_table(looks, ((1, 0),)), tuple(
            look for look in looks if look not in ((1, 0, (1, 0)), (0, 1, (0, 1)))))
        self.assertEqual(kept_table((), ((1, 0),)), ())

    def test_drawn_plans(self):
        for many in (1, 2):
            for table, waits in drawn_plans(113, 60, many, 12, 8):
                kept = kept_table(table, waits)
                self.assertEqual(kept, tuple(look for look in table if not helper.cut(waits, look)))
                self.assertTrue(helper.is_plain(kept))

    def test_by_names(self):
        self.assertEqual(kept_table(waits=((1, 0),), table=((1, 0, (1, 0)), (1, 1, (1, 0)))), ((1, 1, (1, 0)),))


class Calm(unittest.TestCase):
    def rings(self, table, waits):
        """The fewest nodes of a ring of the waits' table, and of the kept table, each None if it has none."""
        found = []
        for rows in (tuple((0, 0, order) for order in waits),
                     tuple(look for look in table if not helper.cut(waits, look))):
            levels = helper.levels_of(rows)
            backs = [levels[look] for look in levels if helper.back(look)]
            found.append(max(2, min(backs)) if backs else None)
        return found

    def check(self, many, table, waits):
        still, around = self.rings(table, waits)
        self.assertIs(is_calm(table, waits), still is None and around is None)
        told = harm(table, waits)
        if still is None and around is None:
            self.assertIsNone(told)
            return
        self.assertIs(type(told), tuple)
        word, nodes = told
        self.assertEqual((word, len(nodes)), ("round", around) if still is None else ("still", still))
        self.assertTrue(helper.are_nodes(many, nodes))
        for look in helper.ring_hops(nodes):
            if word == "still":
                self.assertEqual(look[:2], (0, 0))
                self.assertIn(look[2], waits)
            else:
                self.assertIn(look, table)
                self.assertFalse(helper.cut(waits, look))

    def test_example_of_the_interface(self):
        self.assertEqual((harm(OWN, ())[0], len(harm(OWN, ())[1]), is_calm(OWN, NEARER)), ('round', 2, True))

    def test_the_empty_table_and_the_empty_waits(self):
        self.assertIs(is_calm((), ()), True)
        self.assertIsNone(harm((), ()))
        self.check(1, (), ((0, 0),))
        self.check(1, (), ((0, 1), (1, 0)))
        self.check(1, (), ((1, 0),))
        self.check(1, ((0, 0, (0, 0)),), ())
        self.check(2, OWN, ())
        self.check(2, OWN, NEARER)
        self.check(2, (), NEARER)

    def test_still_comes_ahead_of_round(self):
        table, waits = ((0, 0, (0, 0)),), ((0, 1), (1, 0))
        self.assertEqual(harm(table, waits)[0], "still")
        self.assertEqual(harm(table, waits[:1])[0], "round")
        self.assertEqual(harm((), waits)[0], "still")
        self.assertIs(is_calm(table, waits), False)
        self.assertIs(is_calm(table, waits[:1]), False)
        self.assertIs(is_calm((), waits), False)
        self.assertIs(is_calm((), waits[:1]), True)

    def test_a_look_back_among_the_waits(self):
        self.assertEqual(harm((), ((0, 0),)), ("still", harm((), ((0, 0),))[1]))
        self.assertEqual(len(harm((), ((0, 0),))[1]), 2)

    def test_drawn_plans_of_one_number(self):
        for table, waits in drawn_plans(114, 400, 1, 7, 3):
            self.check(1, table, waits)

    def test_drawn_plans_of_two_numbers(self):
        words = {None}
        for table, waits in drawn_plans(115, 200, 2, 6, 5):
            self.check(2, table, waits)
            words.add((harm(table, waits) or (None,))[0])
        self.assertEqual(words, {None, "still", "round"})

    def test_rings_of_three_nodes(self):
        nodes = ((0, 1, 2), (0, 2, 3), (0, 3, 1))
        orders = tuple(sorted(look[2] for look in helper.ring_hops(nodes)))
        self.check(2, (), orders)
        self.check(2, tuple((1, 1, order) for order in orders), orders[:2])

    def test_by_names(self):
        self.assertIs(is_calm(waits=NEARER, table=OWN), True)
        self.assertIsNone(harm(waits=NEARER, table=OWN))


class Nets(unittest.TestCase):
    """Small nets in which nodes go on as they may, in all orders."""

    def test_a_calm_plan_does_no_harm_in_any(self):
        draw = random.Random(116)
        for many in (1, 2):
            calm = [plan for plan in drawn_plans(117, 400, many, 8, 6) if is_calm(*plan)]
            calm = calm[:60] + [(OWN, NEARER)] * (20 * (many - 1))
            self.assertGreater(len(calm), 40)
            for table, waits in calm:
                going = helper.drawn_going(draw, many, waits, draw.randint(2, 5))
                for gone in going.mixtures():
                    self.assertFalse(going.stands_still(gone))
                    self.assertFalse(going.goes_round(gone, table))

    def test_the_ring_of_a_plan_that_is_not_calm_comes_about_in_its_net(self):
        words = []
        for many in (1, 2):
            for table, waits in drawn_plans(118, 300, many, 7, 5):
                told = harm(table, waits)
                if told is None:
                    continue
                word, nodes = told
                words.append(word)
                going = helper.ring_going(nodes, waits)
                gone = frozenset(at for at, node in enumerate(nodes) if node[0] == 1)
                self.assertIn(gone, going.mixtures())
                if word == "still":
                    self.assertTrue(going.stands_still(frozenset()))
                else:
                    self.assertTrue(going.goes_round(gone, table))
        self.assertGreater(min(words.count("still"), words.count("round")), 20)

    def test_all_plans_of_one_number_with_few_looks(self):
        draw = random.Random(119)
        rows = [table for size in (1, 2) for table in itertools.combinations(helper.looks(1), size)]
        for table in rows:
            for waits in ((), ((1, 0),), ((0, 1),)):
                going = helper.drawn_going(draw, 1, waits, 4)
                harmed = any(going.stands_still(gone) or going.goes_round(gone, table) for gone in going.mixtures())
                self.assertFalse(harmed and is_calm(table, waits))


if __name__ == "__main__":
    unittest.main()
