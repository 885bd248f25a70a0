"""nevergoback.walks, by point 7 and the interface."""

import itertools
import random
import time
import unittest

import helper
from nevergoback.walks import first_hop_not, is_ring, looks_of, ring_for, walk_for

DOWN = (0, 0, (1, 0))
UP = (0, 0, (0, 1))
SAME = (0, 0, (0, 0))
# Both numbers of the next node between those of this one, around them, and the first one up, the second one down.
INSIDE = (0, 0, (0, 3, 1, 2))
AROUND = (0, 0, (1, 2, 0, 3))
ALL_UP = (1, 1, (0, 1, 2, 3))
ALL_DOWN = (1, 1, (2, 3, 0, 1))
PAST = (0, 0, (0, 2, 1, 3))
CROSSING = (1, 1, (0, 1, 1, 0))


def drawn_nodes(draw, many, size):
    return tuple(helper.drawn_crowd(draw, many, size))


def drawn_chain(draw, looks, length):
    """A chain of so many of these looks, each behind one that it joins; the walk in it may end before."""
    chain = (draw.choice(looks),)
    while len(chain) < length:
        nexts = [look for look in looks if helper.together(chain[-1], look)]
        if not nexts:
            return chain
        chain += (draw.choice(nexts),)
    return chain


class FirstHopNot(unittest.TestCase):
    def test_example_of_the_interface(self):
        self.assertEqual(
            (first_hop_not(((0, 0, (1, 0)),), ((0, 3), (0, 2), (0, 2))), is_ring(((0, 0, (0, 0)),), ((0, 4), (0, 4)))),
            (1, True))

    def test_one_node_alone_has_no_hop(self):
        self.assertIsNone(first_hop_not((), ((0, 1),)))
        self.assertIsNone(first_hop_not((DOWN,), ((1, 1, 10 ** 40),)))

    def test_two_nodes(self):
        self.assertIsNone(first_hop_not((DOWN,), ((0, 10 ** 40), (0, 10 ** 40 - 1))))
        self.assertEqual(first_hop_not((DOWN,), ((0, 10 ** 40 - 1), (0, 10 ** 40))), 0)
        self.assertEqual(first_hop_not((DOWN,), ((0, 2), (1, 1))), 0)
        self.assertEqual(first_hop_not((), ((0, 2), (0, 1))), 0)

    def test_the_hop_back_to_the_first_node_does_not_count(self):
        self.assertIsNone(first_hop_not((DOWN,), ((0, 3), (0, 2), (0, 1))))

    def test_a_thousand_nodes(self):
        nodes = tuple((0, 10 ** 40 - at) for at in range(1000))
        self.assertIsNone(first_hop_not((DOWN,), nodes))
        for at in (0, 1, 499, 997, 998):
            wrong = nodes[:at + 1] + tuple((1,) + node[1:] for node in nodes[at + 1:])
            self.assertEqual(first_hop_not((DOWN, (1, 1, (1, 0))), wrong), at)
            self.assertIsNone(first_hop_not((DOWN, (0, 1, (1, 0)), (1, 1, (1, 0))), wrong))

    def test_the_first_of_several(self):
        nodes = ((0, 3), (0, 2), (0, 2), (0, 5), (0, 4))
        self.assertEqual(first_hop_not((DOWN,), nodes), 1)
        self.assertEqual(first_hop_not((SAME, DOWN), nodes), 2)
        self.assertEqual(first_hop_not((SAME, UP), nodes), 0)
        self.assertIsNone(first_hop_not((SAME, UP, DOWN), nodes))

    def test_drawn_nodes_of_two_numbers(self):
        draw = random.Random(71)
        for _ in range(200):
            nodes = drawn_nodes(draw, 2, draw.randint(1, 6))
            table = tuple(sorted({look for look in helper.hops(nodes) if draw.random() < 0.8}))
            misses = [at for at, look in enumerate(helper.hops(nodes)) if look not in table]
            self.assertEqual(first_hop_not(table, nodes), misses[0] if misses else None)

    def test_by_names(self):
        self.assertEqual(first_hop_not(nodes=((0, 1), (0, 1)), table=()), 0)


class IsRing(unittest.TestCase):
    def test_one_node_alone_is_none(self):
        self.assertIs(is_ring((SAME,), ((0, 4),)), False)
        self.assertIs(is_ring(helper.looks(2), ((0, 4, 4),)), False)

    def test_two_nodes(self):
        self.assertIs(is_ring((SAME,), ((0, 10 ** 40), (0, 10 ** 40))), True)
        self.assertIs(is_ring((UP, DOWN), ((0, 2), (0, 1))), True)
        self.assertIs(is_ring((DOWN,), ((0, 2), (0, 1))), False)
        self.assertIs(is_ring((UP,), ((0, 2), (0, 1))), False)
        self.assertIs(is_ring((), ((0, 2), (0, 1))), False)

    def test_only_the_hop_back_to_the_first_node_is_not_in_the_table(self):
        nodes = tuple((0, 10 ** 40 - at) for at in range(1000))
        for size in (2, 3, 999, 1000):
            self.assertIs(is_ring((DOWN,), nodes[:size]), False)
            self.assertIs(is_ring((UP, DOWN), nodes[:size]), True)

    def test_only_one_other_hop_is_not_in_the_table(self):
        self.assertIs(is_ring((UP, DOWN), ((0, 3), (0, 2), (0, 2))), False)
        self.assertIs(is_ring((UP, SAME, DOWN), ((0, 3), (0, 2), (0, 2))), True)

    def test_a_ring_has_at_most_a_thousand_nodes(self):
        self.assertIs(is_ring((SAME,), ((0, 4),) * 1000), True)
        self.assertIs(is_ring((SAME,), ((0, 4),) * 1001), False)

    def test_drawn_nodes_of_two_numbers(self):
        draw = random.Random(72)
        for _ in range(200):
            nodes = drawn_nodes(draw, 2, draw.randint(2, 6))
            looks = sorted(set(helper.ring_hops(nodes)))
            self.assertIs(is_ring(tuple(looks), nodes), True)
            looks.remove(draw.choice(looks))
            self.assertIs(is_ring(tuple(looks), nodes), False)

    def test_by_names(self):
        self.assertIs(is_ring(nodes=((0, 1), (0, 1)), table=(SAME,)), True)


class LooksOf(unittest.TestCase):
    def test_of_one_node(self):
        self.assertEqual(looks_of(((0, 1),)), ())

    def test_of_two_and_three_nodes(self):
        self.assertEqual(looks_of(((0, 5, 9), (1, 5, 2))), ((0, 1, (1, 2, 1, 0)),))
        self.assertEqual(looks_of(((0, 3), (1, 3), (0, 10 ** 40))), ((0, 1, (0, 0)), (1, 0, (0, 1))))

    def test_of_a_thousand_nodes(self):
        nodes = drawn_nodes(random.Random(73), 2, 1000)
        looks = looks_of(nodes)
        self.assertEqual(looks, helper.hops(nodes))
        self.assertEqual(len(looks), 999)
        self.assertTrue(helper.is_plain(looks))

    def test_by_name(self):
        self.assertEqual(looks_of(nodes=((0, 1), (0, 1))), (SAME,))


class WalkFor(unittest.TestCase):
    def check(self, chain):
        nodes = walk_for(chain)
        self.assertEqual(len(nodes), len(chain) + 1)
        self.assertTrue(helper.are_nodes(len(chain[0][2]) // 2, nodes))
        self.assertEqual(helper.hops(nodes), chain)

    def test_each_look_alone(self):
        for many in (1, 2):
            for look in helper.looks(many):
                self.check((look,))

    def test_all_chains_of_two_and_three_looks_of_one_number(self):
        for length in (2, 3):
            for chain in itertools.product(helper.looks(1), repeat=length):
                if all(one[1] == other[0] for one, other in zip(chain, chain[1:])):
                    self.check(chain)
                else:
                    self.assertIsNone(walk_for(chain))

    def test_drawn_chains(self):
        draw = random.Random(74)
        for many in (1, 2):
            for length in list(range(1, 9)) * 8 + [150, 300]:
                self.check(drawn_chain(draw, helper.looks(many), length))

    def test_long_chains(self):
        for length in (1, 2, 8, 150, 300):
            for look in (UP, DOWN, SAME, INSIDE, AROUND, ALL_UP, ALL_DOWN, PAST):
                self.check((look,) * length)
            for one, other in ((UP, DOWN), (DOWN, UP), (ALL_UP, ALL_DOWN), (INSIDE, AROUND), (AROUND, PAST)):
                self.check(((one, other) * length)[:length])

    def test_one_inside_another_and_standings_in_turn(self):
        self.check(((0, 1, (0, 3, 1, 2)), (1, 0, (1, 2, 0, 3))) * 150)
        self.check((CROSSING, (1, 1, (1, 0, 0, 1))) * 150)

    def test_great_chains_end_in_due_time(self):
        begin = time.perf_counter()
        draw = random.Random(75)
        for _ in range(10):
            self.check(drawn_chain(draw, helper.looks(2), 300))
        self.assertLess(time.perf_counter() - begin, 10)

    def test_neighbours_that_do_not_join_by_standings(self):
        self.assertIsNone(walk_for((UP, (1, 0, (0, 1)))))
        for length in (2, 8, 300):
            for at in (1, length // 2, length - 1):
                self.assertIsNone(walk_for((UP,) * at + ((1, 1, (0, 1)),) + (UP,) * (length - at - 1)))

    def test_neighbours_that_do_not_join_by_orders(self):
        for length in (2, 8, 300):
            for at in (1, length // 2, length - 1):
                chain = (ALL_UP,) * at + ((1, 1, (1, 0, 2, 3)),) + (ALL_UP,) * (length - at - 1)
                self.assertIsNone(walk_for(chain))
        self.assertIsNone(walk_for(((0, 0, (0, 1, 2, 2)), (0, 0, (0, 1, 0, 1)))))

    def test_the_last_look_need_not_join_the_first_one(self):
        self.check(((0, 1, (0, 1)), (1, 1, (0, 0))))
        self.check(((0, 0, (0, 1, 2, 2)), (0, 0, (0, 0, 2, 1))))

    def test_by_name(self):
        self.assertEqual(helper.hops(walk_for(chain=(UP,))), (UP,))


class RingFor(unittest.TestCase):
    def check(self, chain):
        nodes = ring_for(chain)
        self.assertEqual(len(nodes), len(chain))
        self.assertTrue(helper.are_nodes(len(chain[0][2]) // 2, nodes))
        self.assertEqual(helper.ring_hops(nodes), chain)

    def test_one_look(self):
        for many in (1, 2):
            for look in helper.looks(many):
                nodes = ring_for((look,))
                if helper.back(look):
                    self.assertTrue(helper.are_nodes(many, nodes))
                    self.assertEqual(helper.ring_hops(nodes), (look, look))
                else:
                    self.assertIsNone(nodes, look)

    def test_all_chains_of_one_number(self):
        for length in (2, 3):
            crowd = [(s, k) for s in (0, 1) for k in range(1, length + 1)]
            rings = {helper.ring_hops(nodes) for nodes in itertools.product(crowd, repeat=length)}
            for chain in itertools.product(helper.looks(1), repeat=length):
                if chain in rings:
                    self.check(chain)
                else:
                    self.assertIsNone(ring_for(chain), chain)

    def test_all_chains_of_two_looks_of_two_numbers(self):
        for one, other in itertools.product(helper.orders(2), repeat=2):
            chain = ((0, 1, one), (1, 0, other))
            if other == helper.flip(one):
                self.check(chain)
            else:
                self.assertIsNone(ring_for(chain), chain)

    def test_all_chains_of_three_orders_of_two_numbers(self):
        found = helper.composed(2)
        for first, second in sorted(found)[::7]:
            for third in helper.orders(2):
                chain = ((0, 1, first), (1, 1, second), (1, 0, third))
                if helper.flip(third) in found[(first, second)]:
                    self.check(chain)
                else:
                    self.assertIsNone(ring_for(chain), chain)

    def test_drawn_rings(self):
        draw = random.Random(76)
        for many in (1, 2):
            for length in list(range(2, 9)) * 8 + [150, 300]:
                self.check(helper.ring_hops(drawn_nodes(draw, many, length)))

    def test_chains_that_close_to_no_ring(self):
        for length in (2, 3, 8, 150, 300):
            for look in (UP, DOWN, INSIDE, AROUND, ALL_UP, ALL_DOWN, PAST):
                self.assertIsNone(ring_for((look,) * length))
            self.assertIsNone(ring_for((SAME,) * (length - 1) + (UP,)))
            self.assertIsNone(ring_for((DOWN,) + (SAME,) * (length - 1)))

    def test_long_rings(self):
        for length in (2, 8, 150, 300):
            self.check((SAME,) * length)
            self.check((UP, DOWN) * (length // 2))
            self.check((UP,) + (SAME,) * (length - 2) + (DOWN,))
            self.check((INSIDE, AROUND) * (length // 2))
            self.check((CROSSING, (1, 1, (1, 0, 0, 1))) * (length // 2))
            self.check((DOWN,) * (length - 1) + (UP,))

    def test_long_chains_end_in_due_time(self):
        begin = time.perf_counter()
        # The first number stays the same but goes up once, the second one goes up and down in turn.
        turns = ((0, 0, (0, 1, 0, 2)), (0, 0, (0, 2, 0, 1))) * 149
        for _ in range(20):
            self.assertIsNone(ring_for(turns + ((0, 0, (0, 1, 0, 2)), (0, 0, (0, 2, 1, 3)))))
        self.assertLess(time.perf_counter() - begin, 10)

    def test_only_the_last_look_does_not_join_the_first_one(self):
        self.assertIsNone(ring_for(((0, 0, (0, 1)), (0, 1, (1, 0)))))
        self.assertIsNone(ring_for(((1, 0, (0, 1)), (0, 0, (1, 0)))))
        self.assertIsNone(ring_for((UP,) * 149 + (DOWN,) * 150 + ((0, 1, (1, 0)),)))
        self.assertIsNone(ring_for(((0, 0, (0, 1, 2, 2)), (0, 0, (2, 2, 0, 0)))))

    def test_neighbours_that_do_not_join(self):
        self.assertIsNone(ring_for((UP, (1, 1, (1, 0)), DOWN)))
        self.assertIsNone(ring_for((ALL_UP, (1, 1, (1, 0, 2, 3)), ALL_DOWN)))

    def test_by_name(self):
        self.assertEqual(helper.ring_hops(ring_for(chain=(UP, DOWN))), (UP, DOWN))


if __name__ == "__main__":
    unittest.main()
