"""nevergoback.looks, by point 5 and the interface."""

import copy
import itertools
import unittest

from nevergoback.errors import InvalidTable, InvalidWaits
from nevergoback.looks import all_looks, is_back, is_look, is_node, look_between, require_table, require_waits
from nevergoback.orders import all_orders

# Values that are no number, no standing, no order, no node, no look, no table.
OTHER_KINDS = (None, True, False, "", "0", "01", [], [0], [0, 5], {}, {0: 5}, {"a": (0, 5)})

LOOKS = ((0, 0, (0, 1)), (0, 1, (0, 0)), (1, 0, (1, 0)), (1, 1, (0, 0)))
WIDE_LOOKS = ((0, 0, (0, 1, 2, 3)), (0, 1, (1, 2, 1, 0)), (1, 1, (0, 0, 0, 0)))


def with_part(row, at, part):
    return row[:at] + (part,) + row[at + 1:]


class IsNode(unittest.TestCase):
    def test_nodes(self):
        for many, value in ((1, (0, 1)), (1, (1, 1)), (1, (0, 10 ** 40)), (2, (0, 1, 1)), (2, (1, 9, 4)),
                            (2, (1, 10 ** 40, 1))):
            with self.subTest(value=value):
                self.assertIs(is_node(many, value), True)

    def test_numbers_have_no_upper_bound(self):
        self.assertIs(is_node(1, (0, 10 ** 41)), True)

    def test_another_standing(self):
        for standing in (-1, 2, 10 ** 40) + OTHER_KINDS + ((), (0,)):
            with self.subTest(standing=standing):
                self.assertIs(is_node(1, (standing, 5)), False)
                self.assertIs(is_node(2, (standing, 5, 6)), False)

    def test_too_few_or_too_many_numbers(self):
        for value in ((), (0,), (0, 5, 6), (0, 5, 6, 7)):
            self.assertIs(is_node(1, value), False)
        for value in ((), (0,), (0, 5), (0, 5, 6, 7)):
            self.assertIs(is_node(2, value), False)

    def test_a_number_below_1(self):
        for number in (0, -1, -(10 ** 40)):
            self.assertIs(is_node(1, (0, number)), False)
            self.assertIs(is_node(2, (0, number, 5)), False)
            self.assertIs(is_node(2, (1, 5, number)), False)

    def test_numbers_of_other_kinds(self):
        for part in OTHER_KINDS + ((), (5,), "5", [5]):
            with self.subTest(part=part):
                self.assertIs(is_node(1, (0, part)), False)
                self.assertIs(is_node(2, (0, part, 5)), False)
                self.assertIs(is_node(2, (0, 5, part)), False)

    def test_booleans_in_any_place(self):
        for value in ((False, 5), (True, 5), (0, True), (True, True)):
            self.assertIs(is_node(1, value), False)
        for at in range(3):
            self.assertIs(is_node(2, with_part((1, 1, 1), at, True)), False)

    def test_values_of_other_kinds(self):
        for value in OTHER_KINDS + (0, 5, ((0, 5),), ((0, 5), (0, 5)), [0, 5, 6], "055"):
            for many in (1, 2):
                with self.subTest(value=value, many=many):
                    self.assertIs(is_node(many, value), False)

    def test_by_names(self):
        self.assertIs(is_node(value=(0, 5), many=1), True)


class LookBetween(unittest.TestCase):
    def test_example_of_the_interface(self):
        self.assertEqual((look_between((0, 5, 9), (1, 5, 2)), is_back((1, 1, (0, 0)))), ((0, 1, (1, 2, 1, 0)), True))

    def test_of_one_number(self):
        self.assertEqual(look_between((0, 3), (0, 3)), (0, 0, (0, 0)))
        self.assertEqual(look_between((0, 3), (1, 4)), (0, 1, (0, 1)))
        self.assertEqual(look_between((1, 4), (0, 3)), (1, 0, (1, 0)))
        self.assertEqual(look_between((1, 10 ** 40), (1, 10 ** 40 - 1)), (1, 1, (1, 0)))

    def test_of_two_numbers(self):
        self.assertEqual(look_between((1, 2, 1), (0, 1, 2)), (1, 0, (1, 0, 0, 1)))
        self.assertEqual(look_between((0, 1, 2), (0, 3, 4)), (0, 0, (0, 1, 2, 3)))
        self.assertEqual(look_between((0, 3, 4), (0, 1, 2)), (0, 0, (2, 3, 0, 1)))

    def test_is_a_look_for_all_small_nodes(self):
        nodes = list(itertools.product((0, 1), (1, 4, 6), (1, 4, 6)))
        for u in nodes:
            for v in nodes:
                look = look_between(u, v)
                self.assertIs(is_look(2, look), True)
                self.assertEqual(look[:2], (u[0], v[0]))

    def test_is_a_plain_tuple(self):
        look = look_between((0, 5), (1, 5))
        self.assertEqual((type(look), type(look[2])), (tuple, tuple))

    def test_by_names(self):
        self.assertEqual(look_between(v=(1, 4), u=(0, 3)), (0, 1, (0, 1)))


class IsLook(unittest.TestCase):
    def test_looks(self):
        for look in LOOKS:
            self.assertIs(is_look(1, look), True)
        for look in WIDE_LOOKS:
            self.assertIs(is_look(2, look), True)

    def test_for_another_many(self):
        for look in LOOKS:
            self.assertIs(is_look(2, look), False)
        for look in WIDE_LOOKS:
            self.assertIs(is_look(1, look), False)

    def test_another_standing(self):
        for standing in (-1, 2, 10 ** 40) + OTHER_KINDS + ((), (0,)):
            with self.subTest(standing=standing):
                self.assertIs(is_look(1, (standing, 0, (0, 0))), False)
                self.assertIs(is_look(1, (0, standing, (0, 0))), False)

    def test_too_few_or_too_many_parts(self):
        for value in ((), (0,), (0, 0), (0, (0, 0)), (0, 0, 0), (0, 0, 0, 0), (0, 0, 0, (0, 0)), (0, 0, (0, 0), 0)):
            self.assertIs(is_look(1, value), False)

    def test_an_order_that_is_none(self):
        for order in ((0, 2), (1, 1), (1, 2), (-1, 0), (0,), (), (0, 0, 0), (0, 1, 2)) + OTHER_KINDS:
            with self.subTest(order=order):
                self.assertIs(is_look(1, (0, 1, order)), False)
        for order in ((0, 1, 3, 2, 2), (0, 1, 1, 3), (1, 2, 3, 4), (0, 0, 0), (0, 1)):
            self.assertIs(is_look(2, (0, 1, order)), False)

    def test_booleans_in_any_place(self):
        for value in ((False, 0, (0, 1)), (True, 0, (0, 1)), (0, False, (0, 1)), (0, True, (0, 1)),
                      (0, 0, (False, 1)), (0, 0, (0, True)), (0, 0, (False, False)), (1, 1, (True, 0))):
            self.assertIs(is_look(1, value), False)
        for at in range(4):
            order = (1, 0, 1, 0)
            self.assertIs(is_look(2, (0, 0, with_part(order, at, bool(order[at])))), False)

    def test_lists_in_place_of_tuples(self):
        for value in ([0, 0, (0, 1)], [0, 0, [0, 1]], (0, 0, [0, 1]), ([0], 0, (0, 1)), (0, 0, ([0], 1))):
            self.assertIs(is_look(1, value), False)

    def test_values_of_other_kinds_at_any_depth(self):
        for part in OTHER_KINDS + ((), (0,), (None,)):
            for at in range(3):
                self.assertIs(is_look(1, with_part((0, 1, (1, 0)), at, part)), False)
            for at in range(2):
                self.assertIs(is_look(1, (0, 1, with_part((1, 0), at, part))), False)
            self.assertIs(is_look(1, part), False)

    def test_by_names(self):
        self.assertIs(is_look(value=(0, 1, (1, 0)), many=1), True)


class AllLooks(unittest.TestCase):
    def test_of_one_number(self):
        self.assertEqual(all_looks(1), (
            (0, 0, (0, 0)), (0, 0, (0, 1)), (0, 0, (1, 0)), (0, 1, (0, 0)), (0, 1, (0, 1)), (0, 1, (1, 0)),
            (1, 0, (0, 0)), (1, 0, (0, 1)), (1, 0, (1, 0)), (1, 1, (0, 0)), (1, 1, (0, 1)), (1, 1, (1, 0))))

    def test_of_two_numbers(self):
        looks = all_looks(2)
        self.assertEqual(len(looks), 300)
        self.assertEqual(set(looks), set(itertools.product((0, 1), (0, 1), all_orders(2))))

    def test_ascending_plain_tuples_of_looks(self):
        for many in (1, 2):
            looks = all_looks(many)
            self.assertIs(type(looks), tuple)
            for one, other in zip(looks, looks[1:]):
                self.assertLess(one, other)
            for look in looks:
                self.assertIs(is_look(many, look), True)

    def test_by_name(self):
        self.assertEqual(len(all_looks(many=1)), 12)


class IsBack(unittest.TestCase):
    def test_of_one_number(self):
        back = [look for look in all_looks(1) if is_back(look)]
        self.assertEqual(back, [(0, 0, (0, 0)), (1, 1, (0, 0))])

    def test_of_two_numbers(self):
        back = [look for look in all_looks(2) if is_back(look)]
        self.assertEqual(back, [(0, 0, (0, 0, 0, 0)), (0, 0, (0, 1, 0, 1)), (0, 0, (1, 0, 1, 0)),
                                (1, 1, (0, 0, 0, 0)), (1, 1, (0, 1, 0, 1)), (1, 1, (1, 0, 1, 0))])

    def test_other_standings_are_not_alike(self):
        self.assertIs(is_back((0, 1, (0, 0))), False)
        self.assertIs(is_back((1, 0, (0, 1, 0, 1))), False)

    def test_halves_of_one_order_but_other_numbers(self):
        self.assertIs(is_back((0, 0, (0, 1, 2, 3))), False)
        self.assertIs(is_back((0, 0, (0, 1, 0, 2))), False)
        self.assertIs(is_back((0, 0, (0, 1, 1, 0))), False)

    def test_is_a_boolean(self):
        self.assertIs(is_back((1, 1, (0, 0))), True)

    def test_just_between_alike_nodes(self):
        nodes = list(itertools.product((0, 1), (1, 4), (1, 4)))
        for u in nodes:
            for v in nodes:
                self.assertIs(is_back(look_between(u, v)), u == v)

    def test_by_name(self):
        self.assertIs(is_back(look=(0, 0, (0, 0))), True)


class Required:
    """What holds for a table and for waits alike; a test case below names the function, the error and the parts."""

    def index_of_fault(self, value, many=1):
        kept = copy.deepcopy(value)
        with self.assertRaises(self.error) as caught:
            self.require(many, value)
        self.assertEqual(value, kept)
        return caught.exception.index

    def require(self, many, value):
        return self.function[0](many, value)

    def test_returns_it(self):
        for value in ((), self.parts[:1], self.parts[1:2], self.parts, self.parts[::2]):
            self.assertIs(self.require(1, value), value)
        for value in ((), self.wide_parts[:1], self.wide_parts):
            self.assertIs(self.require(2, value), value)

    def test_all_there_are(self):
        for many in (1, 2):
            value = self.all_parts[0](many)
            self.assertIs(self.require(many, value), value)

    def test_by_names(self):
        self.assertIs(self.function[0](value=self.parts, many=1), self.parts)

    def test_none_for_what_is_no_tuple(self):
        for value in OTHER_KINDS + (0, 1, 10 ** 40, list(self.parts), {part: 1 for part in self.parts}):
            with self.subTest(value=value):
                self.assertIsNone(self.index_of_fault(value))

    def test_index_of_the_first_part_that_is_none(self):
        for at in range(len(self.parts)):
            for part in OTHER_KINDS + (0, (), (0,), list(self.parts[at]), self.wide_parts[0], self.parts):
                with self.subTest(at=at, part=part):
                    self.assertEqual(self.index_of_fault(with_part(self.parts, at, part)), at)

    def test_parts_of_another_many(self):
        self.assertEqual(self.index_of_fault(self.parts, 2), 0)
        self.assertEqual(self.index_of_fault(self.wide_parts, 1), 0)
        self.assertEqual(self.index_of_fault(self.wide_parts + self.parts[:1], 2), len(self.wide_parts))

    def test_booleans_within_a_part(self):
        for at in range(len(self.parts)):
            for part in self.with_booleans:
                self.assertEqual(self.index_of_fault(with_part(self.parts, at, part)), at)

    def test_equal_parts(self):
        for at in range(len(self.parts)):
            value = self.parts[:at] + (self.parts[at],) + self.parts[at:]
            self.assertEqual(self.index_of_fault(value), at + 1)

    def test_exchanged_parts(self):
        for at in range(len(self.parts) - 1):
            value = self.parts[:at] + (self.parts[at + 1], self.parts[at]) + self.parts[at + 2:]
            self.assertEqual(self.index_of_fault(value), at + 1)
        self.assertEqual(self.index_of_fault(self.parts[::-1]), 1)

    def test_above_the_part_ahead_but_not_above_an_earlier_one(self):
        first, second, third = self.parts[:3]
        self.assertEqual(self.index_of_fault((third, first, second)), 1)
        self.assertEqual(self.index_of_fault((second, third, first)), 2)

    def test_the_first_of_several_faults(self):
        first, second = self.parts[:2]
        self.assertEqual(self.index_of_fault((second, first, None)), 1)
        self.assertEqual(self.index_of_fault((None, second, first)), 0)
        self.assertEqual(self.index_of_fault((first, None, None)), 1)
        self.assertEqual(self.index_of_fault((first, first, first)), 1)


class RequireTable(Required, unittest.TestCase):
    function = (require_table,)
    all_parts = (all_looks,)
    error = InvalidTable
    parts = LOOKS
    wide_parts = WIDE_LOOKS
    with_booleans = ((True, 0, (0, 1)), (0, False, (0, 1)), (0, 0, (False, True)), (0, 0, (0, True)))

    def test_ascending_by_all_parts_of_a_look(self):
        for one, other in zip(all_looks(2), all_looks(2)[1:]):
            self.assertEqual(require_table(2, (one, other)), (one, other))
            self.assertEqual(self.index_of_fault((other, one), 2), 1)

    def test_an_order_is_no_look(self):
        self.assertEqual(self.index_of_fault(((0, 1),)), 0)


class RequireWaits(Required, unittest.TestCase):
    function = (require_waits,)
    all_parts = (all_orders,)
    error = InvalidWaits
    parts = ((0, 0), (0, 1), (1, 0))
    wide_parts = ((0, 0, 0, 0), (0, 1, 2, 3), (3, 2, 1, 0))
    with_booleans = ((False, 0), (0, True), (True, False), (False, False))

    def test_ranks_that_leave_a_gap(self):
        self.assertEqual(self.index_of_fault(((0, 1), (0, 2))), 1)
        self.assertEqual(self.index_of_fault(((0, 0), (1, 1))), 1)

    def test_a_look_is_no_order(self):
        self.assertEqual(self.index_of_fault(((0, 0), (0, 0, (0, 1)))), 1)


if __name__ == "__main__":
    unittest.main()
