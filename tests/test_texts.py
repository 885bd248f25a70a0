"""nevergoback.texts, by point 20 and the interface."""

import itertools
import random
import unittest

import helper
from nevergoback.errors import ParseError
from nevergoback.texts import format_table, parse_conditions

WORDS = ("old", "new")
SIGNS = {
    "<": lambda x, y: x < y, "<=": lambda x, y: x <= y, "=": lambda x, y: x == y, "!=": lambda x, y: x != y,
    ">=": lambda x, y: x >= y, ">": lambda x, y: x > y,
}
NAMES = {1: ("u1", "v1"), 2: ("u1", "u2", "v1", "v2")}


def table_of(many, conditions):
    """The table of conditions, each told as two standings and triples (name, sign, name)."""
    found = set()
    for first, second, comparisons in conditions:
        for order in helper.orders(many):
            numbers = dict(zip(NAMES[many], order))
            if all(SIGNS[sign](numbers[one], numbers[other]) for one, sign, other in comparisons):
                found.add((first, second, order))
    return tuple(sorted(found))


def line_of(first, second, comparisons):
    head = WORDS[first] + " " + WORDS[second] + ":"
    return head + " " * bool(comparisons) + ", ".join(" ".join(part) for part in comparisons)


class FormatTable(unittest.TestCase):
    def test_example_of_the_interface(self):
        self.assertEqual((format_table(((0, 1, (1, 2, 1, 0)),)), parse_conditions(1, "old new: u1 != v1\n")),
                         ('old new: v2 < u1, u1 = v1, v1 < u2\n', ((0, 1, (0, 1)), (0, 1, (1, 0)))))

    def test_example_of_the_point(self):
        self.assertEqual(format_table(((0, 1, (0, 1, 1, 2)),)), "old new: u1 < u2, u2 = v1, v1 < v2\n")

    def test_the_empty_table(self):
        self.assertEqual(format_table(()), "")

    def test_all_looks_of_one_number(self):
        self.assertEqual(format_table(helper.looks(1)), "".join(
            f"{first} {second}: {pair}\n" for first in WORDS for second in WORDS
            for pair in ("u1 = v1", "u1 < v1", "v1 < u1")))

    def test_equal_numbers_stand_in_the_order_of_their_names(self):
        self.assertEqual(format_table(((1, 0, (0, 0, 0, 0)), (1, 1, (1, 0, 0, 1)), (1, 1, (1, 1, 0, 0)))),
                         "new old: u1 = u2, u2 = v1, v1 = v2\nnew new: u2 = v1, v1 < u1, u1 = v2\n"
                         "new new: v1 = v2, v2 < u1, u1 = u2\n")

    def test_all_looks_of_two_numbers(self):
        lines = format_table(helper.looks(2)).split("\n")
        self.assertEqual(lines.pop(), "")
        self.assertEqual(len(lines), 300)
        for look, line in zip(helper.looks(2), lines):
            named = sorted(zip(look[2], NAMES[2]))
            told = named[0][1]
            pairs = []
            for (rank, name), (next_rank, next_name) in zip(named, named[1:]):
                pairs.append(name + (" = " if rank == next_rank else " < ") + next_name)
            self.assertTrue(line.startswith(WORDS[look[0]] + " " + WORDS[look[1]] + ": " + told))
            self.assertEqual(line.split(": ")[1], ", ".join(pairs))

    def test_by_name(self):
        self.assertEqual(format_table(table=((0, 0, (0, 0)),)), "old old: u1 = v1\n")


class ParseConditions(unittest.TestCase):
    def test_written_and_read_back(self):
        draw = random.Random(201)
        for many in (1, 2):
            looks = helper.looks(many)
            tables = [(), looks] + [(look,) for look in looks]
            tables += [tuple(sorted(draw.sample(looks, draw.randint(2, 9)))) for _ in range(30)]
            for table in tables:
                found = parse_conditions(many, format_table(table))
                self.assertEqual(found, table)
                self.assertTrue(helper.is_plain(found))

    def test_each_sign_for_all_pairs_of_names(self):
        for many in (1, 2):
            for one, other in itertools.product(NAMES[many], repeat=2):
                for sign in SIGNS:
                    condition = (0, 1, [(one, sign, other)])
                    self.assertEqual(parse_conditions(many, line_of(*condition) + "\n"), table_of(many, [condition]))

    def test_one_name_twice(self):
        for sign in ("=", "<=", ">="):
            self.assertEqual(len(parse_conditions(1, f"new old: u1 {sign} u1\n")), 3)
        for sign in ("<", ">", "!="):
            self.assertEqual(parse_conditions(1, f"new old: u1 {sign} u1\n"), ())

    def test_no_comparison(self):
        self.assertEqual(parse_conditions(1, "old new:\n"), ((0, 1, (0, 0)), (0, 1, (0, 1)), (0, 1, (1, 0))))
        self.assertEqual(len(parse_conditions(2, "old old:\nnew new:\n")), 150)
        text = "".join(f"{first} {second}:\n" for first in WORDS for second in WORDS)
        self.assertEqual(parse_conditions(2, text), helper.looks(2))

    def test_no_line(self):
        self.assertEqual(parse_conditions(1, ""), ())
        self.assertEqual(parse_conditions(2, ""), ())

    def test_what_cannot_be(self):
        self.assertEqual(parse_conditions(2, "old old: u1 < v1, v1 < u1\n"), ())
        self.assertEqual(parse_conditions(2, "old old: u1 < v1, v1 < u2, u2 < u1\n"), ())

    def test_drawn_conditions(self):
        draw = random.Random(202)
        for _ in range(200):
            many = draw.choice((1, 2))
            conditions = [(draw.choice((0, 1)), draw.choice((0, 1)),
                           [(draw.choice(NAMES[many]), draw.choice(sorted(SIGNS)), draw.choice(NAMES[many]))
                            for _ in range(draw.randint(0, 4))]) for _ in range(draw.randint(0, 5))]
            text = "".join(line_of(*condition) + "\n" for condition in conditions)
            self.assertEqual(parse_conditions(many, text), table_of(many, conditions), text)

    def test_a_long_text(self):
        text = "old old: u1 < v1\n" * 1000
        self.assertEqual(parse_conditions(1, text), ((0, 0, (0, 1)),))
        line = "old old: " + ", ".join(["u1 < v1"] * 2000) + "\n"
        self.assertEqual(len(parse_conditions(2, line)), 31)

    def test_by_names(self):
        self.assertEqual(parse_conditions(text="old old: u1 = v1\n", many=1), ((0, 0, (0, 0)),))


class Faults(unittest.TestCase):
    GOOD = "old new: u1 <= v1, v1 != u1\n"

    def line_of_fault(self, text, many=1):
        with self.assertRaises(ParseError) as caught:
            parse_conditions(many, text)
        self.assertIs(type(caught.exception.line), int)
        return caught.exception.line

    def test_lines_that_are_none(self):
        for line in (
                "", " ", "old", "old new", "new:", ":", "old:", "old old old:", "Old new:", "OLD NEW:", "older new:",
                "new newer:", "old  new:", " old new:", "old new :", "old new: ", "old new:  ", "old new:u1 < v1",
                "old new:  u1 < v1", "old new: u1 < v1 ", "old new: u1  < v1", "old new: u1 <  v1", "old new: u1< v1",
                "old new: u1 <v1", "old new: u1<v1", "old new: u1 < v1,", "old new: u1 < v1, ",
                "old new: u1 < v1,v1 > u1", "old new: u1 < v1,  v1 > u1", "old new: u1 < v1 , v1 > u1",
                "old new: , u1 < v1", "old new: u1 < v1, , v1 > u1", "old new: u1 < v1; v1 > u1",
                "old new: u1 == v1", "old new: u1 <> v1", "old new: u1 => v1", "old new: u1 =< v1", "old new: u1 ! v1",
                "old new: u1", "old new: u1 <", "old new: < v1", "old new: u1 v1", "old new: u1 < v1 < u1",
                "old new: u1 < w1", "old new: u1 < v", "old new: u < v1", "old new: u1 < v0", "old new: u1 < v3",
                "old new: U1 < v1", "old new: u1 < 1", "old new: u11 < v1", "old new:\tu1 < v1", "old new: u1\t< v1",
                "old new: u1 < v1\r", "old new:\r", "old new: u1 < v1.", "old new: u1 < v1 # why", "old, new:",
                "old new:: u1 < v1", "old new: old new:", "old new:, u1 < v1", "alt neu:", "old new: u1 \u2264 v1",
                "old\u00a0new:", "old new: u\u0661 < v1", "old new: u1 < v1\u2028", "old new: u1 < v1\x0b", "0 1:"):
            for many in (1, 2):
                with self.subTest(line=line, many=many):
                    self.assertEqual(self.line_of_fault(line + "\n", many), 0)
                    self.assertEqual(self.line_of_fault(self.GOOD + line + "\n" + self.GOOD, many), 1)
                    self.assertEqual(self.line_of_fault(self.GOOD * 4 + line + "\n", many), 4)

    def test_names_that_a_node_of_so_many_numbers_has_not(self):
        for line in ("old new: u2 < v1\n", "old new: u1 < v2\n", "old new: u1 < v1, u2 = u2\n"):
            self.assertEqual(self.line_of_fault(self.GOOD + line, 1), 1)
            parse_conditions(2, self.GOOD + line)

    def test_the_first_line_that_is_none(self):
        self.assertEqual(self.line_of_fault(self.GOOD + "x\n" + self.GOOD + "y\n"), 1)
        self.assertEqual(self.line_of_fault("\n\n"), 0)
        self.assertEqual(self.line_of_fault(self.GOOD + "\n"), 1)
        self.assertEqual(self.line_of_fault("\n" + self.GOOD), 0)
        self.assertEqual(self.line_of_fault(self.GOOD + "x\ny"), 1)

    def test_no_line_end(self):
        for many in (1, 2):
            self.assertEqual(self.line_of_fault(self.GOOD[:-1], many), 0)
            self.assertEqual(self.line_of_fault(self.GOOD * 3 + self.GOOD[:-1], many), 3)
            self.assertEqual(self.line_of_fault("old old:", many), 0)

    def test_something_at_the_end(self):
        for rest in ("x", " ", "old", "\r", "\t"):
            self.assertEqual(self.line_of_fault(rest), 0)
            self.assertEqual(self.line_of_fault(self.GOOD + rest), 1)
            self.assertEqual(self.line_of_fault(self.GOOD * 5 + rest), 5)

    def test_a_fault_for_each_line_that_is_left_out(self):
        # A look's own line with its parts left out or doubled, one at a time.
        line = "old new: v2 < u1, u1 = v1, v1 < u2\n"
        words = line[:-1].split(" ")
        for at in range(len(words)):
            for bent in (words[:at] + words[at + 1:], words[:at] + [words[at]] * 2 + words[at + 1:]):
                self.assertEqual(self.line_of_fault(self.GOOD + " ".join(bent) + "\n", 2), 1, bent)

    def test_other_line_ends_are_none(self):
        self.assertEqual(self.line_of_fault("old new:\r\nold new:\n"), 0)
        self.assertEqual(self.line_of_fault("old new:\rold new:\n"), 0)


if __name__ == "__main__":
    unittest.main()
