"""nevergoback.journeys, by points 3 and 9 and the interface."""

import copy
import random
import time
import unittest

import helper
from nevergoback.closures import is_safe
from nevergoback.journeys import comes_back, coming_back, is_journey, is_once, journeys_set
from nevergoback.texts import parse_conditions

DOWN = ((0, 0, (1, 0)), (0, 1, (1, 0)), (1, 0, (1, 0)), (1, 1, (1, 0)))
WIDE_DOWN = tuple(look for look in helper.looks(2) if look[2][2] < look[2][0])
# An old look down with a new one up: safe, but not passing once.
TURNED = ((0, 0, (1, 0)), (1, 1, (0, 1)))
OTHER_KINDS = (None, True, False, 0, 1, "", "ab", [], (), {}, {0: 1}, [0, 0, 5], "005")


def drawn_tables(seed, count, many, most):
    draw = random.Random(seed)
    return [helper.drawn_table(draw, many, most) for _ in range(count)]


def going_down(size):
    """A journey of so many visits by DOWN."""
    return tuple((0, 0, 10 ** 40 - at) for at in range(size))


class JourneysSet(unittest.TestCase):
    def test_of_the_empty_table(self):
        self.assertEqual(journeys_set(()), ())

    def test_by_hand(self):
        # One look, once and once more: the node in the middle has the old standing and keeps it, or goes on.
        self.assertEqual(journeys_set(((0, 0, (1, 0)),)), ((0, 0, (1, 0)),))
        self.assertEqual(journeys_set(((1, 0, (1, 0)),)), ((1, 0, (1, 0)),))
        self.assertEqual(journeys_set(((0, 1, (1, 0)),)), ())
        self.assertEqual(journeys_set(TURNED), (
            (0, 0, (1, 0)), (0, 1, (0, 0)), (0, 1, (0, 1)), (0, 1, (1, 0)), (1, 1, (0, 1))))

    def test_a_look_of_the_table_need_not_be_in_it(self):
        self.assertEqual(journeys_set(((0, 1, (0, 0)), (1, 0, (0, 1)))), (
            (0, 0, (0, 1)), (0, 1, (0, 1)), (1, 0, (0, 1)), (1, 1, (0, 1))))

    def test_drawn_tables_of_one_number(self):
        for table in drawn_tables(101, 400, 1, 7):
            self.assertEqual(journeys_set(table), tuple(sorted(helper.journeys_levels(table))), table)

    def test_drawn_tables_of_two_numbers(self):
        for table in drawn_tables(102, 100, 2, 5):
            self.assertEqual(journeys_set(table), tuple(sorted(helper.journeys_levels(table))), table)
            self.assertTrue(helper.is_plain(journeys_set(table)))

    def test_in_due_time(self):
        begin = time.perf_counter()
        for table in drawn_tables(103, 20, 2, 5):
            journeys_set(table)
        self.assertLess(time.perf_counter() - begin, 20)

    def test_by_name(self):
        self.assertEqual(journeys_set(table=DOWN[:1]), DOWN[:1])


class IsJourney(unittest.TestCase):
    def test_three_visits(self):
        self.assertIs(is_journey(DOWN, ((0, 0, 3), (0, 1, 2), (0, 1, 1))), True)
        self.assertIs(is_journey(TURNED, ((0, 0, 3), (0, 1, 2), (1, 1, 3))), True)
        self.assertIs(is_journey(TURNED, ((0, 0, 3), (0, 0, 2), (1, 1, 3))), False)
        self.assertIs(is_journey(TURNED, ((0, 1, 3), (0, 1, 2), (1, 1, 3))), False)
        self.assertIs(is_journey(WIDE_DOWN, ((0, 0, 3, 1), (0, 1, 2, 1), (1, 1, 1, 10 ** 40))), True)

    def test_each_hop_is_in_the_table(self):
        for size in (3, 4, 6):
            for at in range(size):
                visits = list(going_down(size))
                visits[at] = visits[at][:2] + (10 ** 40 if at else 1,)
                self.assertIs(is_journey(DOWN, tuple(visits)), False, (size, at))

    def test_first_arrival_and_last_leaving_are_free(self):
        for first in (0, 1):
            for last in (0, 1):
                self.assertIs(is_journey(((0, 1, (1, 0)), (1, 0, (1, 0))), ((0, 1, 5), (0, 0, 4), (1, 1, 3))), True)
                self.assertIs(is_journey(((1, 0, (1, 0)),), ((first, 1, 5), (0, 1, 4), (0, last, 3))), True)

    def test_how_many_visits(self):
        self.assertIs(is_journey(DOWN, going_down(2)), False)
        self.assertIs(is_journey(DOWN, going_down(1)), False)
        self.assertIs(is_journey(DOWN, ()), False)
        for size in (3, 999, 1000):
            self.assertIs(is_journey(DOWN, going_down(size)), True)
        self.assertIs(is_journey(DOWN, going_down(1001)), False)

    def test_numbers_have_no_upper_bound(self):
        self.assertIs(is_journey(DOWN, ((0, 0, 10 ** 41), (0, 0, 2), (0, 0, 1))), True)

    def test_a_bent_visit(self):
        for size in (3, 5):
            for at in range(size):
                number = going_down(size)[at][2]
                for visit in ((2, 2, number), (0, 2, number), (-1, 0, number), (1, 0, number), (0, 0), (0, number),
                              (0, 0, 0), (0, 0, -1), (0, 0, number, number), (0, 0, 0, number), (number,),
                              ((0, 0), number), (0, 0, (number,)), (0, 0, None), (None, 0, number), (0, None, number),
                              ("0", "0", number), (0, 0, str(number)), [0, 0, number], (0, 0, [number])):
                    visits = going_down(size)[:at] + (visit,) + going_down(size)[at + 1:]
                    self.assertIs(is_journey(DOWN, visits), False, (at, visit))

    def test_booleans_in_place_of_integers(self):
        self.assertIs(is_journey(DOWN, ((0, 0, 3), (0, 1, 2), (0, 1, 1))), True)
        for visits in (((False, 0, 3), (0, 1, 2), (0, 1, 1)), ((0, False, 3), (0, 1, 2), (0, 1, 1)),
                       ((0, 0, 3), (0, True, 2), (0, 1, 1)), ((0, 0, 3), (0, 1, 2), (False, 1, 1)),
                       ((0, 0, 3), (0, 1, 2), (0, True, 1)), ((0, 0, 3), (0, 1, 2), (0, 1, True))):
            self.assertIs(is_journey(DOWN, visits), False)

    def test_the_number_of_numbers_is_that_of_the_table(self):
        self.assertIs(is_journey(WIDE_DOWN, going_down(3)), False)
        self.assertIs(is_journey(DOWN, tuple(visit + (1,) for visit in going_down(3))), False)
        self.assertIs(is_journey(WIDE_DOWN, tuple(visit + (1,) for visit in going_down(3))), True)

    def test_other_kinds(self):
        visits = going_down(3)
        for value in OTHER_KINDS + (list(visits), [list(visit) for visit in visits], {visit: 1 for visit in visits},
                                    visits[0], (visits,), visits + (None,), (None,) + visits, visits + ([],),
                                    (0, 0, 0), ("a", "b", "c"), "abc", ((), (), ())):
            kept = copy.deepcopy(value)
            self.assertIs(is_journey(DOWN, value), False, value)
            self.assertIs(is_journey(WIDE_DOWN, value), False, value)
            self.assertEqual(value, kept)
        for other in OTHER_KINDS:
            self.assertIs(is_journey(DOWN, visits[:1] + (other,) + visits[2:]), False, other)

    def test_by_the_empty_table_there_is_none(self):
        for value in OTHER_KINDS + (going_down(3), ((0, 0, 1, 1),) * 3):
            self.assertIs(is_journey((), value), False)

    def test_drawn_visits(self):
        draw = random.Random(104)
        for _ in range(300):
            many = draw.choice((1, 2))
            visits = tuple(draw.choice(((0, 0), (0, 1), (1, 1))) + node[1:]
                           for node in helper.drawn_crowd(draw, many, draw.randint(3, 6)))
            looks = sorted(set(helper.visit_hops(visits)))
            self.assertIs(is_journey(tuple(looks), visits), True)
            looks.remove(draw.choice(looks))
            self.assertIs(is_journey(tuple(looks), visits), False)

    def test_by_names(self):
        self.assertIs(is_journey(value=going_down(3), table=DOWN), True)


class ComesBack(unittest.TestCase):
    def test_equal_numbers(self):
        for left, came, answer in ((0, 0, True), (0, 1, True), (1, 0, False), (1, 1, True)):
            for first in range(left + 1):
                for last in range(came, 2):
                    self.assertIs(comes_back(((first, left, 3), (0, 0, 2), (came, last, 3))), answer)
                    self.assertIs(comes_back(((first, left, 3, 5), (0, 1, 2, 2), (0, 1, 9, 9), (came, last, 3, 5))),
                                  answer)

    def test_other_numbers(self):
        self.assertIs(comes_back(((0, 0, 3), (0, 0, 3), (0, 0, 2))), False)
        self.assertIs(comes_back(((0, 0, 3, 5), (0, 0, 3, 5), (1, 1, 3, 4))), False)
        self.assertIs(comes_back(((0, 0, 3, 5), (0, 0, 3, 5), (1, 1, 4, 5))), False)
        self.assertIs(comes_back(((0, 0, 3, 5), (0, 0, 3, 5), (1, 1, 5, 3))), False)

    def test_by_name(self):
        self.assertIs(comes_back(journey=((0, 0, 3), (0, 0, 2), (0, 0, 3))), True)


class Once(unittest.TestCase):
    def check(self, many, table):
        found = helper.journeys_levels(table)
        hops = [found[look] for look in found if helper.returns(look)]
        self.assertIs(is_once(table), not hops, table)
        journey = coming_back(table)
        if not hops:
            self.assertIsNone(journey)
            self.assertIs(is_safe(table), True)
            return
        self.assertEqual(len(journey), min(hops) + 1)
        self.assertTrue(helper.are_visits(many, journey), journey)
        self.assertLessEqual(set(helper.visit_hops(journey)), set(table))
        self.assertEqual(journey[0][2:], journey[-1][2:])
        self.assertLessEqual(journey[0][1], journey[-1][0])
        self.assertIs(is_journey(table, journey), True)
        self.assertIs(comes_back(journey), True)

    def test_example_of_the_interface(self):
        table = parse_conditions(2, "old old: v1 < u1\nnew new: v2 < u2\n")
        self.assertEqual((is_safe(table), is_once(table), len(coming_back(table))), (True, False, 3))

    def test_the_empty_table(self):
        self.check(1, ())

    def test_each_look_alone(self):
        for many in (1, 2):
            for look in helper.looks(many):
                self.check(many, (look,))

    def test_drawn_tables_of_one_number(self):
        for table in drawn_tables(105, 500, 1, 7):
            self.check(1, table)

    def test_drawn_tables_of_two_numbers(self):
        for table in drawn_tables(106, 300, 2, 5):
            self.check(2, table)

    def test_journeys_of_several_lengths(self):
        sizes = {len(coming_back(table)) for table in drawn_tables(107, 800, 2, 5) if not is_once(table)}
        self.assertGreaterEqual(sizes, {3, 4, 5})

    def test_a_table_that_goes_down_at_one_place_is_passing_once(self):
        for table in (DOWN, WIDE_DOWN, tuple(look for look in helper.looks(2) if look[2][3] < look[2][1])):
            self.assertIs(is_once(table), True)
            self.assertIsNone(coming_back(table))

    def test_an_old_look_with_a_new_one_whose_order_is_turned(self):
        for many in (1, 2):
            for order in helper.orders(many):
                table = ((0, 0, order), (1, 1, helper.flip(order)))
                if order[many] < order[0] and not helper.back((0, 0, order)):
                    self.assertIs(is_safe(table), True)
                    self.assertIs(is_once(table), False)
                    self.assertEqual(len(coming_back(table)), 3)

    def test_a_return_with_a_lesser_standing_does_not_count(self):
        # The packet is at the same numbers again, but the node it left was a new one and this one is old.
        self.check(1, ((1, 0, (0, 0)),))
        self.check(1, ((1, 0, (1, 0)), (0, 0, (0, 1))))
        self.assertIs(is_once(((1, 0, (0, 0)),)), True)
        self.assertIs(is_once(((1, 0, (0, 1)), (1, 0, (1, 0)))), True)
        self.assertIs(is_once(((1, 1, (1, 0)), (1, 1, (0, 1)))), False)
        self.assertIs(is_once(((0, 1, (1, 0)), (1, 1, (0, 1)))), False)

    def test_no_packet_comes_to_a_node_twice_by_a_table_that_is_passing_once(self):
        draw = random.Random(108)
        for many in (1, 2):
            tables = [table for table in drawn_tables(109, 300, many, 6) if is_once(table)]
            self.assertGreater(len(tables), 40)
            for table in tables:
                crowd = helper.drawn_crowd(draw, many, 6)
                gone = set()
                at, seen = 0, {0}
                for _ in range(30):
                    gone |= {name for name in range(6) if draw.random() < 0.05}
                    nodes = [(int(name in gone),) + crowd[name][1:] for name in range(6)]
                    ways = [to for to in range(6) if to != at and helper.look(nodes[at], nodes[to]) in table]
                    if ways:
                        at = draw.choice(ways)
                        self.assertNotIn(at, seen)
                        seen.add(at)

    def test_by_names(self):
        self.assertIs(is_once(table=DOWN), True)
        self.assertIsNone(coming_back(table=DOWN))


if __name__ == "__main__":
    unittest.main()
