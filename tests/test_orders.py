"""nevergoback.orders, by point 4 and the interface."""

import copy
import itertools
import unittest

from nevergoback.orders import all_orders, is_order, order_of, turned

ORDERS_OF_TWO = ((0, 0), (0, 1), (1, 0))


def ranks(numbers):
    """The order by its definition: how many different numbers are less."""
    return tuple(len({other for other in numbers if other < number}) for number in numbers)


class OrderOf(unittest.TestCase):
    def test_example_of_the_interface(self):
        self.assertEqual((order_of((7, 3, 7)), turned((0, 1, 2, 3))), ((1, 0, 1), (2, 3, 0, 1)))

    def test_one_number(self):
        for number in (-(10 ** 40), -1, 0, 1, 5, 10 ** 40):
            self.assertEqual(order_of((number,)), (0,))

    def test_two_numbers(self):
        self.assertEqual(order_of((4, 4)), (0, 0))
        self.assertEqual(order_of((4, 9)), (0, 1))
        self.assertEqual(order_of((9, 4)), (1, 0))

    def test_ranks_leave_no_gap_behind_equal_numbers(self):
        self.assertEqual(order_of((5, 5, 8, 8, 9)), (0, 0, 1, 1, 2))
        self.assertEqual(order_of((9, 1, 9, 1, 4)), (2, 0, 2, 0, 1))

    def test_twelve_numbers(self):
        self.assertEqual(order_of((6,) * 12), (0,) * 12)
        self.assertEqual(order_of(tuple(range(12, 0, -1))), tuple(range(11, -1, -1)))
        self.assertEqual(order_of((3, 1, 4, 1, 5, 9, 2, 6, 5, 3, 5, 8)), (2, 0, 3, 0, 4, 7, 1, 5, 4, 2, 4, 6))

    def test_numbers_below_0(self):
        self.assertEqual(order_of((-1, -2, 0, -2)), (1, 0, 2, 0))
        self.assertEqual(order_of((-(10 ** 40), 10 ** 40, 0)), (0, 2, 1))

    def test_great_numbers_that_are_close(self):
        great = 10 ** 40
        self.assertEqual(order_of((great, great - 1, great)), (1, 0, 1))
        self.assertEqual(order_of((great - 1, great - 2, great)), (1, 0, 2))

    def test_small_tuples_by_the_definition(self):
        for size in range(1, 6):
            for numbers in itertools.product((-2, -1, 0, 3), repeat=size):
                self.assertEqual(order_of(numbers), ranks(numbers))

    def test_is_a_plain_tuple_of_integers(self):
        order = order_of((2, 1, 2))
        self.assertIs(type(order), tuple)
        self.assertEqual([type(rank) for rank in order], [int, int, int])

    def test_by_name(self):
        self.assertEqual(order_of(numbers=(2, 1)), (1, 0))


class IsOrder(unittest.TestCase):
    def test_orders_of_each_size(self):
        for size in range(1, 13):
            rising = tuple(range(size))
            for order in (rising, rising[::-1], (0,) * size, order_of(tuple(k // 2 for k in rising))):
                with self.subTest(size=size, order=order):
                    self.assertIs(is_order(order, size), True)

    def test_another_size(self):
        for size in range(1, 13):
            for other in range(1, 13):
                if size != other:
                    self.assertIs(is_order(tuple(range(size)), other), False)
        self.assertIs(is_order((), 1), False)

    def test_a_rank_is_missing(self):
        for size in range(1, 13):
            self.assertIs(is_order(tuple(range(1, size + 1)), size), False)
            self.assertIs(is_order((1,) * size, size), False)
            self.assertIs(is_order((-1,) * size, size), False)
            if size > 1:
                with_gap = tuple(range(size - 1)) + (size,)
                self.assertIs(is_order(with_gap, size), False)
                self.assertIs(is_order(with_gap[::-1], size), False)
        self.assertIs(is_order((0, 2, 0, 2), 4), False)
        self.assertIs(is_order((-1, 0), 2), False)
        self.assertIs(is_order((10 ** 40, 0), 2), False)

    def test_all_small_tuples_by_the_definition(self):
        for size in range(1, 5):
            for value in itertools.product(range(-1, 5), repeat=size):
                self.assertIs(is_order(value, size), ranks(value) == value)

    def test_values_of_other_kinds(self):
        for value in (None, True, False, 0, 1, 10 ** 40, "", "0", "01", [], [0], [0, 1], {}, {0: 0}, {0: 0, 1: 1}):
            for size in (1, 2):
                with self.subTest(value=value, size=size):
                    self.assertIs(is_order(value, size), False)

    def test_parts_of_other_kinds(self):
        wrong = ((False,), (None,), ("0",), ("",), ([],), ([0],), ((),), ((0,),), ({},), ({0: 0},))
        for value in wrong:
            with self.subTest(value=value):
                self.assertIs(is_order(value, 1), False)
        for part in (False, True, None, "0", [], [1], (), (0,), {}, {1: 1}):
            for value in ((part, 0), (0, part), (1, part), (part, part)):
                with self.subTest(value=value):
                    self.assertIs(is_order(value, 2), False)

    def test_booleans_that_equal_the_ranks(self):
        for value in ((False, True), (0, True), (False, 1), (True, False), (True, 0), (1, False), (False, False)):
            self.assertIs(is_order(value, 2), False)
        self.assertIs(is_order((0, 1, 2, True), 4), False)

    def test_the_value_is_not_modified(self):
        for value in ([1, 0], ([0], {1: [2]}), {0: [1]}):
            kept = copy.deepcopy(value)
            is_order(value, 2)
            self.assertEqual(value, kept)

    def test_by_names(self):
        self.assertIs(is_order(size=2, value=(1, 0)), True)


class AllOrders(unittest.TestCase):
    def test_of_one_number(self):
        self.assertEqual(all_orders(1), ORDERS_OF_TWO)

    def test_of_two_numbers(self):
        orders = all_orders(2)
        self.assertEqual(len(orders), 75)
        self.assertEqual(orders, tuple(sorted({ranks(row) for row in itertools.product(range(4), repeat=4)})))

    def test_ascending(self):
        for many in (1, 2):
            orders = all_orders(many)
            for one, other in zip(orders, orders[1:]):
                self.assertLess(one, other)

    def test_are_plain_tuples(self):
        for many in (1, 2):
            self.assertIs(type(all_orders(many)), tuple)
            for order in all_orders(many):
                self.assertIs(type(order), tuple)
                self.assertEqual(order_of(order), order)

    def test_by_name(self):
        self.assertEqual(all_orders(many=1), ORDERS_OF_TWO)


class Turned(unittest.TestCase):
    def test_of_one_number(self):
        self.assertEqual([turned(order) for order in ORDERS_OF_TWO], [(0, 0), (1, 0), (0, 1)])

    def test_of_two_numbers(self):
        self.assertEqual(turned((0, 1, 2, 3)), (2, 3, 0, 1))
        self.assertEqual(turned((2, 0, 1, 0)), (1, 0, 2, 0))
        self.assertEqual(turned((0, 1, 0, 1)), (0, 1, 0, 1))

    def test_is_the_order_of_the_exchanged_numbers(self):
        for u in itertools.product((1, 2, 7, 9), repeat=2):
            for v in itertools.product((1, 2, 7, 9), repeat=2):
                self.assertEqual(turned(order_of(u + v)), order_of(v + u))

    def test_twice_is_the_same(self):
        for many in (1, 2):
            for order in all_orders(many):
                self.assertEqual(turned(turned(order)), order)

    def test_by_name(self):
        self.assertEqual(turned(order=(0, 1)), (1, 0))


if __name__ == "__main__":
    unittest.main()
