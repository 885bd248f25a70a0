"""nevergoback.joins, by point 6 and the interface."""

import itertools
import unittest

import helper
from nevergoback.joins import fits, joined, middle

STANDINGS = tuple(itertools.product((0, 1), repeat=4))


def pairs_of_two_numbers():
    """All pairs of orders of two numbers, with standings in turn."""
    orders = helper.orders(2)
    turn = itertools.cycle(STANDINGS)
    for first in orders:
        for second in orders:
            a, b, c, d = next(turn)
            yield (a, b, first), (c, d, second)


def pairs_that_fit():
    """All pairs of orders of two numbers that join, with standings in turn that do."""
    turn = itertools.cycle(itertools.product((0, 1), repeat=3))
    for first, second in sorted(helper.composed(2)):
        a, b, c = next(turn)
        yield (a, b, first), (b, c, second)


class Fits(unittest.TestCase):
    def test_all_pairs_of_one_number(self):
        for one, other in itertools.product(helper.looks(1), repeat=2):
            self.assertIs(fits(one, other), one[1] == other[0], (one, other))

    def test_all_orders_of_two_numbers(self):
        for one, other in pairs_of_two_numbers():
            self.assertIs(fits(one, other), bool(helper.together(one, other)), (one, other))

    def test_all_pairs_of_orders_that_join(self):
        for one, other in pairs_that_fit():
            self.assertIs(fits(one, other), True)
            self.assertIs(fits((one[0], 1 - one[1], one[2]), other), False)
            self.assertIs(fits(one, (1 - other[0], other[1], other[2])), False)

    def test_other_order_in_the_middle(self):
        self.assertIs(fits((0, 0, (0, 0, 0, 1)), (0, 0, (0, 1, 2, 2))), True)
        self.assertIs(fits((0, 0, (0, 0, 0, 1)), (0, 0, (1, 0, 2, 2))), False)
        self.assertIs(fits((0, 0, (0, 0, 1, 1)), (0, 0, (0, 1, 2, 2))), False)

    def test_the_outer_standings_do_not_matter(self):
        for a, b in itertools.product((0, 1), repeat=2):
            self.assertIs(fits((a, 1, (0, 1)), (1, b, (0, 1))), True)
            self.assertIs(fits((a, 0, (0, 1)), (1, b, (0, 1))), False)

    def test_by_names(self):
        self.assertIs(fits(other=(1, 0, (0, 0)), one=(0, 1, (0, 0))), True)


class Joined(unittest.TestCase):
    def test_example_of_the_interface(self):
        self.assertEqual((joined((0, 0, (1, 0)), (0, 1, (1, 0))), joined((0, 0, (1, 0)), (0, 0, (0, 1)))), (
            ((0, 1, (1, 0)),), ((0, 0, (0, 0)), (0, 0, (0, 1)), (0, 0, (1, 0)))))

    def test_all_pairs_of_one_number(self):
        for one, other in itertools.product(helper.looks(1), repeat=2):
            self.assertEqual(joined(one, other), tuple(sorted(helper.together(one, other))), (one, other))

    def test_all_orders_of_two_numbers(self):
        for one, other in pairs_of_two_numbers():
            self.assertEqual(joined(one, other), tuple(sorted(helper.together(one, other))), (one, other))

    def test_all_pairs_of_orders_that_join(self):
        for one, other in pairs_that_fit():
            looks = joined(one, other)
            self.assertEqual(looks, tuple(sorted(helper.together(one, other))), (one, other))
            self.assertTrue(looks)
            self.assertTrue(helper.is_plain(looks))

    def test_none_for_looks_that_do_not_join(self):
        self.assertEqual(joined((0, 0, (0, 1)), (1, 0, (0, 1))), ())
        self.assertEqual(joined((0, 0, (0, 0, 0, 1)), (0, 0, (1, 0, 2, 2))), ())

    def test_by_hand(self):
        # Both u and w have numbers above those of v, so all that is known is that the first one of u is the least.
        self.assertEqual(joined((0, 1, (0, 2, 1, 1)), (1, 0, (0, 0, 1, 2))), (
            (0, 0, (0, 1, 1, 2)), (0, 0, (0, 1, 2, 3)), (0, 0, (0, 2, 1, 2)), (0, 0, (0, 2, 1, 3)),
            (0, 0, (0, 3, 1, 2))))

    def test_what_is_sure(self):
        # x < y <= z, x <= y < z, x > y >= z, x >= y > z and x = y = z.
        for first, second, order in (((0, 1), (0, 0), (0, 1)), ((0, 0), (0, 1), (0, 1)), ((1, 0), (0, 0), (1, 0)),
                                     ((0, 0), (1, 0), (1, 0)), ((0, 0), (0, 0), (0, 0))):
            self.assertEqual(joined((1, 0, first), (0, 1, second)), ((1, 1, order),))

    def test_turned_exchanged_and_upside_down_alike(self):
        def turned(look):
            return (look[1], look[0], helper.flip(look[2]))

        def upside_down(look):
            return (1 - look[0], 1 - look[1], tuple(max(look[2]) - rank for rank in look[2]))

        for one, other in list(pairs_that_fit())[::5]:
            looks = joined(one, other)
            self.assertEqual(joined(turned(other), turned(one)), tuple(sorted(map(turned, looks))))
            self.assertEqual(joined(upside_down(one), upside_down(other)), tuple(sorted(map(upside_down, looks))))

    def test_by_names(self):
        self.assertEqual(joined(other=(1, 0, (1, 0)), one=(0, 1, (0, 0))), ((0, 0, (1, 0)),))


class Middle(unittest.TestCase):
    def check(self, one, other):
        for look in joined(one, other):
            nodes = middle(one, other, look)
            self.assertEqual(len(nodes), 3)
            self.assertTrue(helper.are_nodes(len(one[2]) // 2, nodes), nodes)
            u, v, w = nodes
            self.assertEqual((helper.look(u, v), helper.look(v, w), helper.look(u, w)), (one, other, look))

    def test_each_look_of_all_pairs_of_one_number(self):
        for one, other in itertools.product(helper.looks(1), repeat=2):
            self.check(one, other)

    def test_each_look_of_all_orders_of_two_numbers(self):
        for one, other in pairs_that_fit():
            self.check(one, other)

    def test_by_names(self):
        u, v, w = middle(look=(0, 1, (0, 0)), other=(1, 1, (1, 0)), one=(0, 1, (0, 1)))
        self.assertEqual((helper.look(u, v), helper.look(v, w), u[1]), ((0, 1, (0, 1)), (1, 1, (1, 0)), w[1]))


if __name__ == "__main__":
    unittest.main()
