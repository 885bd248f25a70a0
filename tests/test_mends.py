"""nevergoback.mends, by point 14 and the interface."""

import inspect
import itertools
import random
import time
import unittest

import helper
from nevergoback.errors import InvalidOptions
from nevergoback.mends import cheapest_mend, choices, require_options, with_choice

TABLE = ((0, 1, (0, 1)), (1, 0, (1, 0)))
OPTIONS = (("wait", ((1, 0),), 3), ("forbid", ((0, 1, (0, 1)),), 5))
LOOK = {1: (0, 1, (0, 1)), 2: (0, 1, (0, 1, 1, 0))}
ORDER = {1: (1, 0), 2: (1, 0, 0, 2)}


def sound_options(many):
    return (("forbid", (LOOK[many],), 0), ("wait", (ORDER[many],), 99),
            ("forbid", helper.looks(many), 7), ("wait", helper.orders(many), 7))


def wrong_options(many):
    """Values that are no option."""
    look, order, other = LOOK[many], ORDER[many], 3 - many
    sets = [(), [look], [order], None, look, order, (look, look), (order, order), (look, order), (order, look),
            tuple(reversed(helper.looks(many))), tuple(reversed(helper.orders(many))),
            (LOOK[other],), (ORDER[other],), (look, LOOK[other]), (order, ORDER[other]), ((),), (None,), "ab", 5, True,
            {look: 1}, ((0, True, look[2]),), ((0, 2, look[2]),), ((0, 1, list(look[2])),), (list(order),),
            (tuple(map(bool, order)),)]
    rows = [(what, some, 1) for what in ("forbid", "wait") for some in sets]
    rows += [("forbid", (order,), 1), ("wait", (look,), 1)]
    rows += [(what, (look,), 1) for what in ("", "Forbid", "forbid ", "wait", None, 0, True, b"", ["forbid"], {})]
    rows += [(what, (order,), 1) for what in ("still", "forbid", "Wait", None, 1, ("wait",))]
    rows += [("forbid", (look,), cost) for cost in (-1, 100, True, False, None, "1", (1,), [1], 10 ** 30)]
    rows += [("wait", (order,), cost) for cost in (-1, 100, True, False, None)]
    rows += [(), ("wait",), ("wait", (order,)), ("wait", (order,), 1, 1), ["wait", (order,), 1], None, "wait", 3, True,
             {"wait": 1}, ((order,), "wait", 1), ("wait", 1, (order,))]
    return rows


class RequireOptions(unittest.TestCase):
    def refused(self, many, value):
        with self.assertRaises(InvalidOptions) as caught:
            require_options(many, value)
        self.assertIsInstance(caught.exception, ValueError)
        return caught.exception.index

    def test_sound_ones(self):
        for many in (1, 2):
            for size in (1, 2, 3, 4):
                for options in itertools.product(sound_options(many), repeat=size):
                    self.assertIs(require_options(many, options), options)
        self.assertIs(require_options(1, OPTIONS), OPTIONS)

    def test_costs(self):
        for cost in (0, 1, 98, 99):
            options = (("wait", ((0, 0),), cost),)
            self.assertIs(require_options(1, options), options)
        for cost in (-1, 100):
            self.assertEqual(self.refused(1, (("wait", ((0, 0),), cost),)), 0)

    def test_what_is_no_tuple_of_1_to_4(self):
        sound = sound_options(1)
        for value in ((), sound + sound[:1], list(sound), None, "wait", 0, True, {}, {"wait": sound}, [sound],
                      sound * 2,
                      (None,) * 5):
            self.assertIsNone(self.refused(1, value))

    def test_the_first_that_is_none(self):
        draw = random.Random(921)
        for many in (1, 2):
            sound = sound_options(many)
            for wrong in wrong_options(many):
                at = draw.randint(0, 3)
                options = list(draw.choice(sound) for _ in range(draw.randint(at + 1, 4)))
                options[at] = wrong
                self.assertEqual(self.refused(many, tuple(options)), at, wrong)
                options[draw.randint(at, len(options) - 1)] = draw.choice(wrong_options(many))
                self.assertEqual(self.refused(many, tuple(options)), at, wrong)

    def test_options_of_the_other_many(self):
        self.assertEqual(self.refused(2, sound_options(1)), 0)
        self.assertEqual(self.refused(1, sound_options(2)), 0)
        self.assertEqual(self.refused(1, sound_options(1)[:2] + sound_options(2)[:2]), 2)

    def test_by_names(self):
        self.assertIs(require_options(value=OPTIONS, many=1), OPTIONS)


def drawn_options(draw, many, costs):
    rows = []
    for _ in range(draw.randint(1, 4)):
        if draw.random() < 0.5:
            some = sorted(set(draw.choice(helper.looks(many)) for _ in range(draw.randint(1, 4))))
            rows.append(("forbid", tuple(some), draw.choice(costs)))
        else:
            some = sorted(set(draw.choice(helper.orders(many)) for _ in range(draw.randint(1, 2))))
            rows.append(("wait", tuple(some), draw.choice(costs)))
    return tuple(rows)


def cost(options, choice):
    return sum(options[index][2] for index in choice)


def chosen(table, waits, options, choice):
    """The plan with all that a choice does."""
    looks, orders = set(table), set(waits)
    for index in choice:
        if options[index][0] == "forbid":
            looks -= set(options[index][1])
        else:
            orders |= set(options[index][1])
    return (tuple(sorted(looks)), tuple(sorted(orders)))


class Choices(unittest.TestCase):
    def test_example_of_the_interface(self):
        self.assertEqual((cheapest_mend(TABLE, (), OPTIONS), list(choices(OPTIONS))), ((0,), [(), (0,), (1,), (0, 1)]))

    def test_a_generator(self):
        self.assertTrue(inspect.isgenerator(choices(OPTIONS)))
        self.assertEqual(next(choices(OPTIONS)), ())

    def test_equal_costs_and_costs_of_0(self):
        look = ((0, 0, (0, 0)),)
        free, two, one = ("forbid", look, 0), ("forbid", look, 2), ("forbid", look, 1)
        self.assertEqual(list(choices((free,))), [(), (0,)])
        self.assertEqual(list(choices((free, free))), [(), (0,), (0, 1), (1,)])
        self.assertEqual(list(choices((two, one, one))), [
            (), (1,), (2,), (0,), (1, 2), (0, 1), (0, 2), (0, 1, 2)])
        self.assertEqual(list(choices((one, free))), [(), (1,), (0,), (0, 1)])

    def test_all_choices_in_their_order(self):
        draw = random.Random(922)
        for costs in ((0, 1), (0, 1, 2, 3, 5), (7,), (0,), (1, 50, 99)):
            for _ in range(30):
                options = drawn_options(draw, 1, costs)
                found = list(choices(options))
                rows = [row for size in range(5) for row in itertools.combinations(range(len(options)), size)]
                self.assertEqual(found, sorted(rows, key=lambda row: (cost(options, row), row)))
                self.assertTrue(helper.is_plain(tuple(found)))
                if not any(option[2] == 0 for option in options):
                    self.assertEqual(found[0], ())

    def test_by_name(self):
        self.assertEqual(list(choices(options=OPTIONS))[0], ())


class WithChoice(unittest.TestCase):
    def test_by_hand(self):
        self.assertEqual(with_choice(TABLE, (), OPTIONS, ()), (TABLE, ()))
        self.assertEqual(with_choice(TABLE, (), OPTIONS, (0,)), (TABLE, ((1, 0),)))
        self.assertEqual(with_choice(TABLE, ((0, 0),), OPTIONS, (0, 1)), (TABLE[1:], ((0, 0), (1, 0))))

    def test_what_is_not_there_or_there_already(self):
        options = (("forbid", ((0, 0, (0, 0)), (1, 0, (1, 0))), 1), ("wait", ((0, 0), (1, 0)), 1))
        self.assertEqual(with_choice(TABLE, ((1, 0),), options, (0,)), (TABLE[:1], ((1, 0),)))
        self.assertEqual(with_choice(TABLE, ((1, 0),), options, (1,)), (TABLE, ((0, 0), (1, 0))))
        self.assertEqual(with_choice((), (), options, (0, 1)), ((), ((0, 0), (1, 0))))

    def test_drawn_options(self):
        draw = random.Random(923)
        for _ in range(150):
            many = draw.choice((1, 2))
            table, waits = helper.drawn_table(draw, many, 12), helper.drawn_waits(draw, many, 4)
            options = drawn_options(draw, many, (0, 1))
            for choice in helper.subsets(tuple(range(len(options)))):
                found = with_choice(table, waits, options, choice)
                self.assertEqual(found, chosen(table, waits, options, choice))
                self.assertTrue(helper.is_plain(found))

    def test_by_names(self):
        self.assertEqual(with_choice(choice=(0,), options=OPTIONS, waits=(), table=TABLE), (TABLE, ((1, 0),)))


class CheapestMend(unittest.TestCase):
    def check(self, table, waits, options):
        rows = sorted(helper.subsets(tuple(range(len(options)))), key=lambda row: (cost(options, row), row))
        due = [row for row in rows if helper.calm(*chosen(table, waits, options, row))]
        found = cheapest_mend(table, waits, options)
        self.assertEqual(found, due[0] if due else None)
        return found

    def test_calm_as_it_is(self):
        self.assertEqual(cheapest_mend((), (), OPTIONS), ())
        self.assertEqual(cheapest_mend(TABLE, ((1, 0),), OPTIONS), ())
        self.assertEqual(cheapest_mend((), (), (("wait", ((0, 0),), 0),)), ())

    def test_none_does(self):
        self.assertIsNone(cheapest_mend(((0, 0, (0, 0)),), (), OPTIONS))
        self.assertIsNone(cheapest_mend((), ((0, 0),), OPTIONS))
        self.assertIsNone(cheapest_mend(TABLE, (), (("wait", ((0, 0),), 0),)))

    def test_the_cheapest_one_and_of_these_the_first(self):
        self.assertEqual(cheapest_mend(TABLE, (), OPTIONS), (0,))
        self.assertEqual(cheapest_mend(TABLE, (), OPTIONS[::-1]), (1,))
        self.assertEqual(cheapest_mend(TABLE, (), (OPTIONS[1], OPTIONS[0][:2] + (5,))), (0,))
        twice = (("forbid", ((0, 0, (0, 0)),), 4), ("forbid", ((1, 1, (0, 0)),), 4), ("wait", ((1, 0),), 1),
                 ("forbid", ((0, 0, (0, 0)), (1, 1, (0, 0))), 9))
        self.assertEqual(cheapest_mend(((0, 0, (0, 0)), (1, 1, (0, 0))), (), twice), (0, 1))

    def test_drawn_plans(self):
        draw = random.Random(924)
        found = []
        for _ in range(400):
            many = draw.choice((1, 1, 2))
            table, waits = helper.drawn_table(draw, many, 6), helper.drawn_waits(draw, many, 2)
            options = drawn_options(draw, many, draw.choice(((0, 1, 2), (3,), (0, 99))))
            if table and draw.random() < 0.5:
                options = (("forbid", table[:draw.randint(1, len(table))], 3),) + options[:3]
            found.append(self.check(table, waits, options))
        self.assertGreater(min(found.count(()), found.count(None), len([row for row in found if row])), 20)

    def test_by_names(self):
        self.assertEqual(cheapest_mend(options=OPTIONS, waits=(), table=TABLE), (0,))

    def test_in_due_time(self):
        draw = random.Random(925)
        start = time.monotonic()
        for size in (5, 30, 300):
            table = tuple(sorted(draw.sample(helper.looks(2), size)))
            options = tuple(("forbid", tuple(sorted(draw.sample(helper.looks(2), 150))), 5) for _ in range(4))
            cheapest_mend(table, helper.drawn_waits(draw, 2, 3), options)
        self.assertLess(time.monotonic() - start, 10)


if __name__ == "__main__":
    unittest.main()
