"""nevergoback.closures, by points 3 and 8 and the interface."""

import itertools
import random
import time
import unittest

import helper
from nevergoback.closures import chain_to, closure, is_safe, levels, shortest_ring, walk_to

DOWN = ((0, 0, (1, 0)), (0, 1, (1, 0)), (1, 1, (1, 0)))
# All nodes that hops of rings of one number need: rings of tables of one number have fewer than these numbers.
CROWD = [(standing, number) for standing in (0, 1) for number in range(1, 7)]


def tables_of_one_number():
    """All tables of one number."""
    looks = helper.looks(1)
    for bits in range(2 ** len(looks)):
        yield tuple(look for at, look in enumerate(looks) if bits >> at & 1)


def drawn_tables(seed, count, many, most):
    draw = random.Random(seed)
    return [helper.drawn_table(draw, many, most) for _ in range(count)]


def least_round(table):
    """The fewest nodes of a ring among those of CROWD, each of which may be there twice, or None."""
    ways = {u: [v for v in CROWD if helper.look(u, v) in table] for u in CROWD}
    found = []
    for start in CROWD:
        ends, hops = {start}, 0
        while hops < len(CROWD) and (hops == 0 or start not in ends):
            ends, hops = {v for u in ends for v in ways[u]}, hops + 1
        if start in ends:
            found.append(max(2, hops))
    return min(found, default=None)


class Closure(unittest.TestCase):
    def test_example_of_the_interface(self):
        up = tuple(sorted(DOWN + ((1, 0, (0, 1)),)))
        self.assertEqual((closure(DOWN) == DOWN, levels(DOWN), is_safe(up), len(shortest_ring(up))),
                         (True, (1, 1, 1), False, 2))

    def test_of_the_empty_table(self):
        self.assertEqual(closure(()), ())
        self.assertEqual(levels(()), ())

    def test_by_hand(self):
        self.assertEqual(closure(((0, 0, (0, 1)),)), ((0, 0, (0, 1)),))
        self.assertEqual(closure(((0, 0, (0, 1)), (0, 1, (1, 0)))), (
            (0, 0, (0, 1)), (0, 1, (0, 0)), (0, 1, (0, 1)), (0, 1, (1, 0))))
        self.assertEqual(closure(((0, 1, (0, 0)), (1, 0, (0, 1)))), (
            (0, 0, (0, 1)), (0, 1, (0, 0)), (0, 1, (0, 1)), (1, 0, (0, 1)), (1, 1, (0, 1))))
        self.assertEqual(closure(((0, 0, (0, 1, 1, 0)),)), ((0, 0, (0, 1, 1, 0)),))
        self.assertEqual(closure(((0, 0, (0, 1, 1, 0)), (0, 1, (1, 0, 0, 1)))), (
            (0, 0, (0, 1, 1, 0)), (0, 1, (0, 1, 0, 1)), (0, 1, (1, 0, 0, 1))))

    def test_all_tables_of_one_number(self):
        for table in tables_of_one_number():
            found = sorted(helper.levels_of(table).items())
            self.assertEqual(closure(table), tuple(look for look, level in found), table)
            self.assertEqual(levels(table), tuple(level for look, level in found), table)

    def test_drawn_tables_of_two_numbers(self):
        for table in drawn_tables(81, 150, 2, 5):
            found = sorted(helper.levels_of(table).items())
            self.assertEqual(closure(table), tuple(look for look, level in found), table)
            self.assertEqual(levels(table), tuple(level for look, level in found), table)

    def test_has_the_looks_of_all_walks(self):
        draw = random.Random(82)
        for many in (1, 2):
            for _ in range(50):
                nodes = helper.drawn_crowd(draw, many, 5)
                looks = closure(tuple(sorted(set(helper.hops(nodes)))))
                for u, v in itertools.combinations(nodes, 2):
                    self.assertIn(helper.look(u, v), looks)

    def test_all_looks_there_are(self):
        for many in (1, 2):
            looks = helper.looks(many)
            self.assertEqual(closure(looks), looks)
            self.assertEqual(levels(looks), (1,) * len(looks))

    def test_is_closed(self):
        for table in drawn_tables(83, 100, 2, 5):
            looks = closure(table)
            self.assertEqual(closure(looks), looks)

    def test_plain_values(self):
        for table in drawn_tables(84, 20, 2, 5):
            self.assertTrue(helper.is_plain(closure(table)))
            self.assertTrue(helper.is_plain(levels(table)))

    def test_in_due_time(self):
        begin = time.perf_counter()
        for table in drawn_tables(85, 20, 2, 5):
            levels(table)
        self.assertLess(time.perf_counter() - begin, 20)

    def test_by_names(self):
        self.assertEqual(closure(table=DOWN), DOWN)
        self.assertEqual(levels(table=DOWN), (1, 1, 1))


class Alike(unittest.TestCase):
    """What holds of a table holds of it turned, with its standings exchanged, and upside down."""

    BENT = (
        lambda look: (look[1], look[0], helper.flip(look[2])),
        lambda look: (1 - look[0], 1 - look[1], look[2]),
        lambda look: (look[0], look[1], tuple(max(look[2]) - rank for rank in look[2])),
    )

    def test_closures_and_rings(self):
        for many in (1, 2):
            for table in drawn_tables(94, 80, many, 5):
                found = dict(zip(closure(table), levels(table)))
                ring = shortest_ring(table)
                for bent in self.BENT:
                    other = tuple(sorted(map(bent, table)))
                    self.assertEqual(dict(zip(closure(other), levels(other))),
                                     {bent(look): level for look, level in found.items()})
                    self.assertIs(is_safe(other), is_safe(table))
                    other_ring = shortest_ring(other)
                    self.assertEqual(other_ring and len(other_ring), ring and len(ring))


class ChainAndWalk(unittest.TestCase):
    def check(self, table, look, level):
        chain, nodes = chain_to(table, look), walk_to(table, look)
        if level is None:
            self.assertIsNone(chain)
            self.assertIsNone(nodes)
            return
        self.assertEqual(len(chain), level)
        self.assertTrue(helper.is_plain(chain))
        self.assertLessEqual(set(chain), set(table))
        # The looks of all walks that fit the chain, from the first to the last node.
        found = {chain[0]}
        for hop in chain[1:]:
            found = {new for one in found for new in helper.together(one, hop)}
        self.assertIn(look, found)
        self.assertEqual(len(nodes), level + 1)
        self.assertTrue(helper.are_nodes(len(look[2]) // 2, nodes))
        self.assertLessEqual(set(helper.hops(nodes)), set(table))
        self.assertEqual(helper.look(nodes[0], nodes[-1]), look)

    def test_tables_of_one_number(self):
        for table in list(tables_of_one_number())[::13]:
            found = helper.levels_of(table)
            for look in helper.looks(1):
                self.check(table, look, found.get(look))

    def test_drawn_tables_of_two_numbers(self):
        draw = random.Random(86)
        for table in drawn_tables(87, 60, 2, 5):
            found = helper.levels_of(table)
            others = sorted(set(helper.looks(2)) - set(found))
            for look in draw.sample(sorted(found), min(8, len(found))) + draw.sample(others, min(4, len(others))):
                self.check(table, look, found.get(look))

    def test_the_greatest_level_of_drawn_tables(self):
        for table in drawn_tables(88, 60, 2, 5):
            found = helper.levels_of(table)
            if found:
                look = max(found, key=found.get)
                self.check(table, look, found[look])

    def test_the_empty_table(self):
        self.assertIsNone(chain_to((), (0, 0, (0, 0))))
        self.assertIsNone(walk_to((), (0, 0, (0, 0, 0, 0))))

    def test_a_look_back_of_the_table(self):
        self.assertEqual(chain_to(((1, 1, (0, 0)),), (1, 1, (0, 0))), ((1, 1, (0, 0)),))
        nodes = walk_to(((1, 1, (0, 0)),), (1, 1, (0, 0)))
        self.assertEqual((len(nodes), nodes[0]), (2, nodes[1]))

    def test_by_names(self):
        self.assertEqual(chain_to(look=DOWN[0], table=DOWN), DOWN[:1])
        self.assertEqual(helper.hops(walk_to(look=DOWN[1], table=DOWN)), DOWN[1:2])


class Safe(unittest.TestCase):
    def check_ring(self, many, table, size):
        nodes = shortest_ring(table)
        self.assertEqual(len(nodes), size)
        self.assertTrue(helper.are_nodes(many, nodes))
        self.assertLessEqual(set(helper.ring_hops(nodes)), set(table))

    def check(self, many, table):
        found = helper.levels_of(table)
        backs = [found[look] for look in found if helper.back(look)]
        self.assertIs(is_safe(table), not backs, table)
        if backs:
            self.check_ring(many, table, max(2, min(backs)))
        else:
            self.assertIsNone(shortest_ring(table), table)

    def test_all_tables_of_one_number(self):
        for table in tables_of_one_number():
            self.check(1, table)

    def test_tables_of_one_number_by_rings_among_nodes(self):
        for table in list(tables_of_one_number())[::11]:
            size = least_round(table)
            self.assertIs(is_safe(table), size is None, table)
            if size is None:
                self.assertIsNone(shortest_ring(table))
            else:
                self.check_ring(1, table, size)

    def test_drawn_tables_of_two_numbers(self):
        for table in drawn_tables(89, 300, 2, 5):
            self.check(2, table)

    def test_a_look_back_put_in(self):
        for many in (1, 2):
            for look in helper.looks(many):
                if helper.back(look):
                    self.assertIs(is_safe((look,)), False)
                    self.check_ring(many, (look,), 2)
                    table = tuple(sorted({look, (0, 1, helper.orders(many)[-1])}))
                    self.assertIs(is_safe(table), False)

    def test_safe_though_all_looks_go_up(self):
        self.assertIs(is_safe(((0, 0, (0, 1)),)), True)
        self.assertIs(is_safe(tuple((s, t, (0, 1)) for s in (0, 1) for t in (0, 1))), True)
        up = [look for look in helper.looks(2) if look[2][1] < look[2][3]]
        self.assertIs(is_safe(tuple(up)), True)
        self.assertIsNone(shortest_ring(tuple(up)))

    def test_the_empty_table_is_safe(self):
        self.assertIs(is_safe(()), True)
        self.assertIsNone(shortest_ring(()))

    def test_all_looks_at_once(self):
        for many in (1, 2):
            self.assertIs(is_safe(helper.looks(many)), False)
            self.check_ring(many, helper.looks(many), 2)

    def test_rings_of_more_than_two_nodes(self):
        # No look of these is another one turned, so no two nodes are enough.
        nodes = ((0, 1, 2), (0, 2, 3), (0, 3, 1))
        self.check_ring(2, tuple(sorted(helper.ring_hops(nodes))), 3)
        nodes = ((0, 1, 2), (0, 2, 3), (1, 2, 5), (1, 5, 1))
        self.check_ring(2, tuple(sorted(helper.ring_hops(nodes))), 4)

    def test_shortest_rings_of_drawn_tables(self):
        sizes = set()
        for table in drawn_tables(90, 1500, 2, 5):
            found = helper.levels_of(table)
            backs = [found[look] for look in found if helper.back(look)]
            if backs:
                self.check_ring(2, table, max(2, min(backs)))
                sizes.add(min(backs))
        self.assertGreaterEqual(sizes, {1, 2, 3, 4})

    def test_a_crowd_goes_round_in_no_safe_table(self):
        draw = random.Random(91)
        for many in (1, 2):
            safe = [table for table in drawn_tables(92, 400, many, 6) if is_safe(table)]
            self.assertGreater(len(safe), 50)
            for table in safe:
                crowd = helper.drawn_crowd(draw, many, draw.randint(2, 9))
                self.assertIs(helper.goes_round(crowd, table), False, (table, crowd))

    def test_a_crowd_that_goes_round_tells_that_a_table_is_not_safe(self):
        draw = random.Random(93)
        for many in (1, 2):
            for _ in range(100):
                crowd = tuple(helper.drawn_crowd(draw, many, draw.randint(2, 9)))
                table = tuple(sorted(set(helper.ring_hops(crowd))))
                self.assertIs(is_safe(table), False)
                self.assertLessEqual(len(shortest_ring(table)), len(crowd))

    def test_by_names(self):
        self.assertIs(is_safe(table=DOWN), True)
        self.assertIsNone(shortest_ring(table=DOWN))


if __name__ == "__main__":
    unittest.main()
