"""nevergoback.full, by point 13 and the interface."""

import random
import time
import unittest

import helper
from nevergoback.errors import NotSafe
from nevergoback.full import filled, is_full, room
from nevergoback.looks import all_looks

DOWN = ((0, 0, (1, 0)), (0, 1, (1, 0)), (1, 0, (1, 0)), (1, 1, (1, 0)))


def put(table, look):
    return tuple(sorted(table + (look,)))


def room_for(many, table):
    """The looks that can be put to a table: the closure with each is found by itself."""
    return tuple(look for look in helper.looks(many) if look not in table and helper.safe(put(table, look)))


def turned(table):
    """The table, told from the other node: each look leads the other way."""
    return tuple(sorted((look[1], look[0], helper.flip(look[2])) for look in table))


def exchanged(table):
    """The table with its standings exchanged."""
    return tuple(sorted((1 - look[0], 1 - look[1], look[2]) for look in table))


def upside_down(table):
    """The table with the greatest numbers the least ones."""
    return tuple(sorted((look[0], look[1], tuple(max(look[2]) - rank for rank in look[2])) for look in table))


def drawn_tables(seed, count, many, most):
    draw = random.Random(seed)
    return [tuple(sorted(draw.sample(helper.looks(many), draw.randint(0, most)))) for _ in range(count)]


class Full(unittest.TestCase):
    def check_room(self, many, table):
        found = room(many, table)
        self.assertEqual(found, room_for(many, table))
        self.assertTrue(helper.is_plain(found))
        self.assertIs(is_full(many, table), not found)

    def check_filled(self, many, table):
        """A filled table is safe and full, its own closure, and holds each look that stays safe in its turn."""
        found = filled(many, table)
        self.assertTrue(helper.is_plain(found))
        self.assertTrue(set(table) <= set(found))
        self.assertEqual(helper.closed(found), frozenset(found))
        self.assertFalse([look for look in found if helper.back(look)])
        self.assertIs(is_full(many, found), True)
        self.assertEqual(room(many, found), ())
        self.assertEqual(filled(many, found), found)
        return found

    def check_not_safe(self, many, table):
        self.assertIs(is_full(many, table), False)
        with self.assertRaises(NotSafe) as caught:
            filled(many, table)
        self.assertIsInstance(caught.exception, RuntimeError)

    def test_example_of_the_interface(self):
        self.assertEqual((is_full(1, DOWN), room(1, DOWN), len(filled(1, DOWN))),
                         (False, ((0, 1, (0, 0)), (1, 0, (0, 0))), 5))

    def test_the_looks_are_put_in_their_order(self):
        self.assertEqual(filled(1, DOWN), put(DOWN, (0, 1, (0, 0))))
        # To the empty table the looks up are put first, as they come first.
        self.assertEqual(filled(1, ()), (
            (0, 0, (0, 1)), (0, 1, (0, 0)), (0, 1, (0, 1)), (0, 1, (1, 0)), (1, 1, (0, 1))))
        self.assertEqual(filled(1, ((1, 0, (0, 0)),)), (
            (0, 0, (0, 1)), (0, 1, (0, 1)), (1, 0, (0, 0)), (1, 0, (0, 1)), (1, 1, (0, 1))))

    def test_tables_of_one_number(self):
        for table in drawn_tables(911, 400, 1, 12) + [(), helper.looks(1), DOWN]:
            if not helper.safe(table):
                self.check_not_safe(1, table)
                continue
            self.check_room(1, table)
            found = self.check_filled(1, table)
            told = table
            for look in helper.looks(1):
                if look not in told and helper.safe(put(told, look)):
                    told = put(told, look)
            self.assertEqual(found, told)

    def test_all_tables_of_one_number_with_up_to_three_looks(self):
        for table in helper.subsets(helper.looks(1)):
            if len(table) > 3:
                break
            self.assertIs(is_full(1, table), False)
            if helper.safe(table):
                self.check_room(1, table)

    def test_one_look_more_than_a_filled_table_has(self):
        for table in drawn_tables(912, 40, 1, 4) + [(), DOWN]:
            if helper.safe(table):
                found = filled(1, table)
                for look in helper.looks(1):
                    if look not in found:
                        self.check_not_safe(1, put(found, look))
        draw = random.Random(913)
        found = filled(2, ())
        for look in draw.sample([look for look in helper.looks(2) if look not in found], 20):
            self.check_not_safe(2, put(found, look))

    def test_room_for_two_numbers(self):
        tables = [(), ((0, 0, (1, 0, 0, 1)),), ((0, 1, (1, 1, 0, 0)), (1, 0, (0, 1, 0, 1)))]
        for table in tables + [table for table in drawn_tables(914, 4, 2, 2) if helper.safe(table)]:
            self.check_room(2, table)

    def test_filled_tables_of_two_numbers(self):
        for table in drawn_tables(915, 5, 2, 2) + [()]:
            if helper.safe(table):
                self.check_filled(2, table)

    def test_each_look_in_its_turn_for_two_numbers(self):
        for table in ((), ((1, 1, (1, 0, 0, 1)),)):
            found, told = filled(2, table), table
            for look in helper.looks(2)[::7]:
                # What is ahead of the look in a filled table was put, or told, ahead of it.
                told = tuple(sorted(set(table) | {other for other in found if other < look}))
                self.assertIs(look in found, helper.safe(tuple(sorted(set(told) | {look}))))

    def test_all_looks_that_lead_down(self):
        for place in (0, 1):
            table = tuple(look for look in helper.looks(2) if look[2][2 + place] < look[2][place])
            found = self.check_filled(2, table)
            self.assertIs(is_full(2, table), False)
            self.assertEqual(len(found), 147)
            for look in room(2, table):
                self.assertFalse(look[2][place] < look[2][2 + place])

    def test_not_safe(self):
        for many in (1, 2):
            for look in helper.looks(many):
                if helper.back(look):
                    self.check_not_safe(many, (look,))
            self.check_not_safe(many, helper.looks(many))
        self.check_not_safe(1, ((0, 0, (0, 1)), (0, 0, (1, 0))))

    def test_turned_exchanged_and_upside_down(self):
        tables = [(1, table) for table in drawn_tables(916, 60, 1, 5)]
        tables += [(2, table) for table in drawn_tables(919, 2, 2, 2)]
        for many, table in tables:
            for change in (turned, exchanged, upside_down):
                changed = change(table)
                self.assertIs(is_full(many, changed), is_full(many, table))
                if helper.safe(table):
                    self.assertEqual(room(many, changed), change(room(many, table)))
                    self.assertIs(is_full(many, change(filled(many, table))), True)
                    self.check_filled(many, changed)
                else:
                    self.check_not_safe(many, changed)

    def test_arguments_are_not_modified_and_named(self):
        table = tuple(DOWN)
        self.assertEqual(filled(table=table, many=1), put(DOWN, (0, 1, (0, 0))))
        self.assertEqual(room(table=table, many=1), ((0, 1, (0, 0)), (1, 0, (0, 0))))
        self.assertIs(is_full(table=table, many=1), False)
        self.assertEqual(table, DOWN)

    def test_in_due_time(self):
        start = time.monotonic()
        tables = [(), tuple(look for look in all_looks(2) if look[2][2] < look[2][0])] + drawn_tables(918, 10, 2, 5)
        for table in tables:
            if helper.safe(table):
                filled(2, table)
                room(2, table)
                is_full(2, table)
        self.assertLess(time.monotonic() - start, 20)


if __name__ == "__main__":
    unittest.main()
