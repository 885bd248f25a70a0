"""nevergoback.trials, by points 12 and 16 and the interface."""

import random
import time
import unittest

import helper
from nevergoback.errors import LimitExceeded
from nevergoback.trials import first_waits, tree_of

# Down at the second place: no two of these wait for one another.
DOWN = tuple(order for order in helper.orders(2) if order[3] < order[1])
ALIKE = (1, 0, 1, 0)


class Walked:
    """A trial, walked by a list of what is left to try: its waits (or None), and the partial waits it looked at."""

    def __init__(self, table, may):
        self.orders = [order for order in may if helper.uncut(table, (order,)) != table]
        self.waits = None
        self.seen = []
        left = [((), tuple(self.orders))]
        while left and self.waits is None:
            waits, free = left.pop()
            self.seen.append((waits, free))
            if not helper.safe(helper.waiting(waits)) or not helper.safe(helper.uncut(table, waits + free)):
                continue
            if helper.safe(helper.uncut(table, waits)):
                self.waits = waits
            else:
                left += [(waits, free[1:]), (waits + free[:1], free[1:])]


def tree_faults(table, may, tree):
    """What is wrong with a tree, by the words of points 12 and 16."""
    faults = []
    left = [(tree, {})]
    while left:
        part, decided = left.pop()
        if type(part) is not tuple or len(part) not in (2, 3):
            faults.append(("form", part))
        elif len(part) == 3:
            order = part[0]
            if order in decided or order not in may:
                faults.append(("order", order))
            left += [(part[1], {**decided, order: True}), (part[2], {**decided, order: False})]
        else:
            faults += leaf_faults(table, may, part, decided)
    return faults


def leaf_faults(table, may, leaf, decided):
    word, nodes = leaf
    many = helper.many_of(table)
    if not helper.are_nodes(many, nodes) or not 2 <= len(nodes) <= 1000:
        return [("nodes", nodes)]
    hops = helper.ring_hops(nodes)
    if word == "still":
        return [hop for hop in hops if hop[:2] != (0, 0) or decided.get(hop[2]) is not True]
    faults = [] if word == "round" else [word]
    for hop in hops:
        needs = {(1, 0): hop[2], (0, 1): helper.flip(hop[2])}.get(hop[:2])
        if hop not in table or (needs in may and decided.get(needs) is not False):
            faults.append(hop)
    return faults


def size_of(tree):
    return 1 if len(tree) == 2 else 1 + size_of(tree[1]) + size_of(tree[2])


def depth_of(tree):
    return 0 if len(tree) == 2 else 1 + max(depth_of(tree[1]), depth_of(tree[2]))


def both_ways(order):
    """The looks by which two nodes, a new one and an old one, hand on to one another: only this order cuts them."""
    return ((1, 0, order), (0, 1, helper.flip(order)))


def wide(draw, count):
    """A table and so many orders, each way to decide all of which must be looked at: the last one, of alike nodes, can
    neither wait nor be left out, and the others cut looks that do no harm."""
    some = [order for order in DOWN if order < ALIKE]
    orders = tuple(sorted(draw.sample(some, count - 1))) + (ALIKE,)
    return tuple(sorted(both_ways(ALIKE) + tuple((1, 0, order) for order in orders[:-1]))), orders


def drawn_table(draw, many, most):
    """A drawn table, most looks of which are between an old node and a new one."""
    between = [look for look in helper.looks(many) if look[0] != look[1]]
    rows = [draw.choice(between if draw.random() < 0.8 else helper.looks(many)) for _ in range(draw.randint(1, most))]
    if draw.random() < 0.5:
        alike = [order for order in helper.orders(many) if order == helper.flip(order)]
        rows += both_ways(draw.choice(alike if draw.random() < 0.5 else helper.orders(many)))
    return tuple(sorted(set(rows[-most:])))


def drawn_may(draw, table, many):
    """Up to five orders, most of which cut something."""
    cutting = [order for order in helper.orders(many) if helper.uncut(table, (order,)) != table]
    rows = [draw.choice(cutting if cutting and draw.random() < 0.8 else helper.orders(many))
            for _ in range(draw.randint(0, 5))]
    return tuple(sorted(set(rows)))


class Trials(unittest.TestCase):
    def check(self, many, table, may):
        walked = Walked(table, may)
        waits = first_waits(many, table, may, tries=5000)
        tree = tree_of(many, table, may, tries=5000)
        self.assertEqual(waits, walked.waits)
        calm = [some for some in helper.subsets(may) if helper.calm(table, some)]
        self.assertIs(waits is None, not calm)
        if waits is None:
            self.assertEqual(tree_faults(table, may, tree), [])
            self.assertEqual(size_of(tree), len(walked.seen))
            if len(tree) == 3:
                self.assertEqual(tree[0], walked.orders[0])
        else:
            self.assertIsNone(tree)
            self.assertTrue(helper.is_plain(waits))
            self.assertIn(waits, calm)
        self.check_tries(many, table, may, len(walked.seen), waits)
        return waits, tree, len(walked.seen)

    def check_tries(self, many, table, may, count, waits):
        for function in (first_waits, tree_of):
            found = function(many, table, may, tries=count)
            self.assertIs(found is None, (function is tree_of) is (waits is not None))
            if count > 1:
                with self.assertRaises(LimitExceeded) as caught:
                    function(many, table, may, tries=count - 1)
                self.assertEqual(caught.exception.limit, count - 1)
                self.assertIsInstance(caught.exception, OverflowError)

    def test_example_of_the_interface(self):
        table = ((0, 1, (0, 1)), (1, 0, (1, 0)))
        self.assertEqual((first_waits(1, table, ((0, 1), (1, 0))), tree_of(1, table, ((0, 0),))[0]),
                         (((1, 0),), 'round'))

    def test_no_orders_at_all(self):
        self.assertEqual(first_waits(1, ((0, 0, (1, 0)),), ()), ())
        self.assertIsNone(tree_of(1, ((0, 0, (1, 0)),), ()))
        self.assertIsNone(first_waits(1, ((0, 0, (0, 0)),), ()))
        self.check(1, ((0, 0, (0, 0)),), ())
        self.assertEqual(first_waits(2, (), ()), ())
        self.assertEqual(first_waits(2, (), helper.orders(2)), ())

    def test_a_table_that_is_calm_without_waits(self):
        for table in (((0, 0, (1, 0)), (0, 1, (1, 0))), ((1, 0, (1, 0)),)):
            for may in helper.subsets(helper.orders(1)):
                self.assertEqual(self.check(1, table, may)[0], ())

    def test_a_table_that_is_not_safe_with_any(self):
        for table in (((1, 1, (0, 0)),), ((0, 0, (0, 1)), (0, 0, (1, 0)), (0, 1, (0, 1)))):
            for may in helper.subsets(helper.orders(1)):
                waits, tree, count = self.check(1, table, may)
                self.assertEqual((waits, count), (None, 1))
                self.assertEqual(tree[0], "round")

    def test_all_orders_of_one_number_with_drawn_tables(self):
        draw = random.Random(901)
        found = []
        for _ in range(250):
            table = tuple(sorted(draw.sample(helper.looks(1), draw.randint(0, 8))))
            found.append(self.check(1, table, draw.choice(helper.subsets(helper.orders(1)))))
        for _ in range(250):
            table = drawn_table(draw, 1, 8)
            found.append(self.check(1, table, drawn_may(draw, table, 1)))
        self.assertGreater(len([waits for waits, _, count in found if waits]), 20)
        self.assertGreater(len([tree for _, tree, count in found if tree and count > 1]), 20)

    def test_drawn_tables_of_two_numbers(self):
        draw = random.Random(902)
        found = []
        for _ in range(150):
            table = drawn_table(draw, 2, 4)
            found.append(self.check(2, table, drawn_may(draw, table, 2)))
        self.assertGreater(len([waits for waits, _, count in found if waits]), 20)
        self.assertGreater(len([tree for _, tree, count in found if tree and count > 1]), 8)

    def test_orders_that_cut_nothing_do_not_count(self):
        table = both_ways((1, 0))
        table = tuple(sorted(table))
        for may in helper.subsets(((0, 0), (0, 1))):
            self.assertEqual(self.check(1, table, may)[::2], (None, 1))
            more = tuple(sorted(may + ((1, 0),)))
            self.assertEqual(self.check(1, table, more)[::2], (((1, 0),), 2))

    def test_the_least_order_is_decided_first_and_to_wait_first(self):
        # Either of the two orders does it.
        table = ((0, 1, (0, 1)), (1, 0, (0, 1)), (1, 1, (1, 0)))
        self.assertIsNone(self.check(1, table, ())[0])
        self.assertEqual(self.check(1, table, ((0, 1),))[0], ((0, 1),))
        self.assertEqual(self.check(1, table, ((1, 0),))[0], ((1, 0),))
        self.assertEqual(self.check(1, table, ((0, 1), (1, 0)))[0], ((0, 1),))

    def test_waits_that_are_not_needed_stay_if_they_were_decided_first(self):
        low, high = DOWN[0], DOWN[-1]
        table = tuple(sorted(both_ways(high) + ((1, 0, low),)))
        self.assertEqual(self.check(2, table, (low, high))[0], (low, high))

    def test_still_leaves(self):
        # Alike nodes can not wait for one another, and their ring is cut by no other order.
        table = tuple(sorted(both_ways((0, 0))))
        waits, tree, count = self.check(1, table, ((0, 0), (0, 1)))
        self.assertEqual((waits, count, tree[0], tree[1][0], tree[2][0]), (None, 3, (0, 0), "still", "round"))

    def test_orders_that_must_all_wait(self):
        draw = random.Random(903)
        for count in (1, 2, 6, 7):
            orders = tuple(sorted(draw.sample(DOWN, count)))
            table = tuple(sorted(look for order in orders for look in both_ways(order)))
            self.assertEqual(self.check(2, table, orders)[0], orders)
            self.assertIsNone(self.check(2, table, orders[1:])[0])

    def test_orders_that_must_all_wait_and_one_of_them_turned(self):
        draw = random.Random(904)
        for count in (1, 6, 7):
            for _ in range(3):
                orders = draw.sample(DOWN, count)
                orders = tuple(sorted(orders + [helper.flip(draw.choice(orders))]))
                table = tuple(sorted(look for order in orders for look in both_ways(order)))
                waits, tree, _ = self.check(2, table, orders)
                self.assertIsNone(waits)
                self.assertLessEqual(depth_of(tree), count + 1)

    def test_trials_of_3_up_to_255_partial_waits(self):
        draw = random.Random(905)
        for count in range(1, 8):
            table, orders = wide(draw, count)
            waits, tree, tries = self.check(2, table, orders)
            self.assertEqual((waits, tries, depth_of(tree)), (None, 2 ** (count + 1) - 1, count))

    def test_200_tries_if_nothing_is_passed(self):
        draw = random.Random(906)
        for function in (first_waits, tree_of):
            table, orders = wide(draw, 7)
            with self.assertRaises(LimitExceeded) as caught:
                function(2, table, orders)
            self.assertEqual(caught.exception.limit, 200)
            function(2, table, orders, tries=255)
            function(2, *wide(draw, 6))

    def test_tries_by_its_name_alone(self):
        for function in (first_waits, tree_of):
            with self.assertRaises(TypeError):
                function(1, (), (), 5)

    def test_by_names(self):
        table = ((0, 1, (0, 1)), (1, 0, (1, 0)))
        self.assertEqual(first_waits(tries=2, may=((1, 0),), table=table, many=1), ((1, 0),))
        self.assertEqual(tree_of(tries=1, may=(), table=table, many=1)[0], "round")

    def test_in_due_time(self):
        draw = random.Random(907)
        start = time.monotonic()
        for count in (8, 9):
            table, orders = wide(draw, count)
            tree = tree_of(2, table, orders, tries=5000)
            self.assertEqual(size_of(tree), 2 ** (count + 1) - 1)
        for _ in range(10):
            first_waits(2, tuple(sorted(draw.sample(helper.looks(2), 20))), helper.orders(2), tries=5000)
        self.assertLess(time.monotonic() - start, 20)


if __name__ == "__main__":
    unittest.main()
