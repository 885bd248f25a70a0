"""nevergoback.claims, by point 15 and the interface."""

import random
import time
import unittest

import by_words
import helper
from nevergoback.checker import first_fault
from nevergoback.claims import decide, require_claim
from nevergoback.errors import InvalidClaim, LimitExceeded
from nevergoback.texts import parse_conditions
from nevergoback.trials import first_waits, tree_of

DOWN = ((0, 0, (1, 0)), (0, 1, (1, 0)), (1, 0, (1, 0)), (1, 1, (1, 0)))
OWN = parse_conditions(2, "old old: v1 < u1\nold new: v1 < u1\nnew old: v2 < u2\nnew new: v2 < u2\n")
NEARER = tuple(look[2] for look in parse_conditions(2, "old old: v2 < u2\n"))
OPTIONS = (("wait", ((1, 0),), 3), ("forbid", ((0, 1, (0, 1)),), 5))
BOTH_WAYS = ((0, 1, (0, 1)), (1, 0, (1, 0)))

# One claim of each word that is true, and one that is false.
TRUE = {
    "safe": ("safe", 1, DOWN),
    "once": ("once", 1, ((0, 0, (1, 0)), (1, 1, (1, 0)))),
    "between": ("between", 1, DOWN, DOWN),
    "calm": ("calm", 2, OWN, NEARER),
    "brings": ("brings", 2, OWN, NEARER),
    "none": ("none", 1, BOTH_WAYS, ((0, 0), (0, 1))),
    "full": ("full", 1, tuple(sorted(DOWN + ((0, 1, (0, 0)),)))),
    "mend": ("mend", 1, BOTH_WAYS, (), OPTIONS, 3),
}
FALSE = {
    "safe": ("safe", 2, OWN),
    "once": ("once", 2, OWN),
    "between": ("between", 1, DOWN, DOWN[1:]),
    "calm": ("calm", 2, OWN, ()),
    "brings": ("brings", 1, DOWN[:2], ()),
    "none": ("none", 1, BOTH_WAYS, ((1, 0),)),
    "full": ("full", 1, DOWN),
    "mend": ("mend", 1, BOTH_WAYS, (), OPTIONS, None),
}


class RequireClaim(unittest.TestCase):
    def refused(self, value):
        """Whether require_claim, decide and first_fault all say that a value is no claim."""
        found = []
        for function in (require_claim, decide):
            try:
                function(value)
                found.append(False)
            except InvalidClaim as error:
                self.assertIsInstance(error, ValueError)
                found.append(True)
        found.append(first_fault(("shown", value, ())) == ("claim",))
        self.assertEqual(found, found[:1] * 3, value)
        return found[0]

    def test_valid_claims_of_all_words(self):
        for claim in list(TRUE.values()) + list(FALSE.values()):
            self.assertIs(require_claim(claim), claim)
            self.assertFalse(self.refused(claim))
            self.assertTrue(by_words.is_claim(claim))
        for name in ("safe", "once", "full"):
            self.assertFalse(self.refused((name, 1, ())))
            self.assertFalse(self.refused((name, 1, helper.looks(1))))
        for name in ("calm", "brings"):
            self.assertFalse(self.refused((name, 2, (), ())))
            self.assertFalse(self.refused((name, 2, helper.looks(2), helper.orders(2))))
        for least in (None, 0, 1, 399, 400):
            self.assertFalse(self.refused(("mend", 1, BOTH_WAYS, (), OPTIONS, least)))

    def test_what_is_no_claim(self):
        wrong = [None, True, 5, "safe", (), [], {}, ("safe",), ("safe", 1), ("safe", 1, (), ()), ["safe", 1, ()],
                 ("Safe", 1, ()), ("", 1, ()), (None, 1, ()), (0, 1, ()), (["safe"], 1, ()), (("safe",), 1, ()),
                 ({}, 1, ()), (b"", 1, ()), ("safe", 0, ()), ("safe", 3, ()), ("safe", True, ()), ("safe", "1", ()),
                 ("safe", None, ()), ("safe", [1], ()), ("safe", 1, []), ("safe", 1, None), ("safe", 1, "()"),
                 ("safe", 1, DOWN[::-1]), ("safe", 1, DOWN[:1] * 2), ("safe", 1, OWN), ("safe", 2, DOWN),
                 ("calm", 1, DOWN), ("calm", 1, DOWN, DOWN), ("calm", 1, (), ((1, 1),)),
                 ("calm", 1, (), ((1, 0), (0, 1))),
                 ("between", 1, DOWN), ("between", 1, DOWN, ((1, 0),)), ("none", 1, DOWN, [(1, 0)]),
                 ("none", 1, DOWN, ((1, 0),), 200), ("full", 1, DOWN, ()), ("brings", 2, OWN, ((1, 0),)),
                 ("mend", 1, BOTH_WAYS, (), OPTIONS), ("mend", 1, BOTH_WAYS, (), (), 3),
                 ("mend", 1, BOTH_WAYS, (), OPTIONS * 3, 3), ("mend", 1, BOTH_WAYS, (), list(OPTIONS), 3),
                 ("mend", 1, BOTH_WAYS, (), OPTIONS[0], 3), ("shown", TRUE["safe"], DOWN)]
        wrong += [("mend", 1, BOTH_WAYS, (), OPTIONS, least) for least in (-1, 401, True, False, "3", (3,), [3],
            10 ** 40)]
        for value in wrong:
            self.assertTrue(self.refused(value), value)
            self.assertFalse(by_words.is_claim(value))

    def test_the_word_of_another_one(self):
        for claim in list(TRUE.values()) + list(FALSE.values()):
            for name in by_words.WORDS:
                other = (name,) + claim[1:]
                self.assertIs(self.refused(other), not by_words.is_claim(other))

    def test_true_and_false_in_place_of_integers(self):
        for claim in TRUE.values():
            for way in by_words.places_in(claim):
                part = by_words.part_at(claim, way)
                if type(part) is int and part in (0, 1):
                    self.assertTrue(self.refused(by_words.put_at(claim, way, bool(part))))
                if type(part) is tuple:
                    self.assertTrue(self.refused(by_words.put_at(claim, way, list(part))))
                    self.assertTrue(self.refused(by_words.put_at(claim, way, None)))

    def test_one_or_two_parts_bent_at_any_depth(self):
        draw = random.Random(931)
        found = []
        for _ in range(400):
            many = draw.choice((1, 1, 2))
            claim = by_words.drawn_claim(draw, draw.choice(by_words.WORDS), many, 4)
            for _ in range(4):
                value = by_words.bent(draw, claim)
                if draw.random() < 0.5:
                    value = by_words.bent(draw, value)
                found.append(self.refused(value))
                self.assertIs(found[-1], not by_words.is_claim(value), value)
        self.assertGreater(min(found.count(True), found.count(False)), 100)

    def test_by_name(self):
        self.assertIs(require_claim(claim=TRUE["safe"]), TRUE["safe"])


class Decide(unittest.TestCase):
    def check(self, claim, **more):
        certificate = decide(claim, **more)
        self.assertIs(type(certificate), tuple)
        verdict, told, paper = certificate
        self.assertEqual(verdict, "shown" if by_words.is_true(claim) else "broken", claim)
        self.assertIs(told, claim)
        self.assertIsNone(first_fault(certificate), certificate)
        self.assertIsNone(by_words.first_fault(certificate), certificate)
        return verdict, paper

    def test_example_of_the_interface(self):
        claim = ("safe", 1, ((0, 0, (0, 0)),))
        self.assertEqual((decide(claim)[0], first_fault(("shown", claim, ((0, 0, (0, 0)),)))),
                         ('broken', ('back', (0, 0, (0, 0)))))

    def test_one_of_each_word(self):
        for claim in TRUE.values():
            self.assertEqual(self.check(claim)[0], "shown")
        for claim in FALSE.values():
            self.assertEqual(self.check(claim)[0], "broken")

    def test_empty_tables(self):
        for many in (1, 2):
            for name in ("safe", "once"):
                self.assertEqual(self.check((name, many, ())), ("shown", ()))
            self.assertEqual(self.check(("between", many, (), ())), ("shown", ()))
            self.assertEqual(self.check(("calm", many, (), ())), ("shown", ((), ())))
            self.assertEqual(self.check(("brings", many, (), ()))[1][0], "empty")
            self.assertEqual(self.check(("none", many, (), ())), ("broken", ((), (), ())))
            self.assertEqual(self.check(("full", many, ()))[1][0], "room")

    def test_drawn_claims(self):
        draw = random.Random(932)
        found = []
        for name in by_words.WORDS:
            for many, count in ((1, 120), (2, 3 if name == "full" else 50)):
                for _ in range(count):
                    found.append((name, self.check(by_words.drawn_claim(draw, name, many))[0]))
        for name in by_words.WORDS:
            self.assertGreater(min(found.count((name, "shown")), found.count((name, "broken"))), 15, name)

    def test_a_full_table_of_two_numbers(self):
        from nevergoback.full import filled
        for table in ((), OWN[:3]):
            certificate = decide(("full", 2, filled(2, table)))
            self.assertEqual(certificate[0], "shown")
            self.assertIsNone(first_fault(certificate))

    def test_still_ahead_of_round_ahead_of_empty(self):
        still, around, empty = ((0, 0),), ((1, 1, (0, 0)),), ()
        for name in ("calm", "brings"):
            self.assertEqual(self.check((name, 1, around, still))[1][0], "still")
            self.assertEqual(self.check((name, 1, empty, still))[1][0], "still")
            self.assertEqual(self.check((name, 1, around, ()))[1][0], "round")
        self.assertEqual(self.check(("brings", 1, empty, ()))[1][0], "empty")
        self.assertEqual(self.check(("calm", 1, empty, ()))[0], "shown")

    def test_shortest_rings_are_told_for_calm_and_brings(self):
        nodes = ((0, 1, 2), (0, 2, 3), (0, 3, 1))
        waits = tuple(sorted(look[2] for look in helper.ring_hops(nodes)))
        self.assertEqual(len(self.check(("calm", 2, (), waits))[1][1]), 3)

    def test_mends_with_less_and_more(self):
        for least, verdict, head in ((3, "shown", (0,)), (None, "broken", "less"), (4, "broken", "less"),
                                     (400, "broken", "less"), (2, "broken", "more"), (0, "broken", "more")):
            found, paper = self.check(("mend", 1, BOTH_WAYS, (), OPTIONS, least))
            self.assertEqual((found, paper[0]), (verdict, head))
        hopeless = ("mend", 1, ((0, 0, (0, 0)),), (), OPTIONS)
        self.assertEqual(self.check(hopeless + (None,))[0], "shown")
        self.assertEqual(len(self.check(hopeless + (None,))[1]), 4)
        self.assertEqual(len(self.check(hopeless + (400,))[1][1]), 4)
        self.assertEqual(len(self.check(hopeless + (5,))[1][1]), 3)

    def test_limit_exceeded_for_none_alone(self):
        draw = random.Random(933)
        seen = 0
        for _ in range(150):
            claim = by_words.drawn_claim(draw, "none", draw.choice((1, 2)))
            tries = 1
            while True:
                try:
                    found = tree_of(*claim[1:], tries=tries), first_waits(*claim[1:], tries=tries)
                    break
                except LimitExceeded:
                    with self.assertRaises(LimitExceeded) as caught:
                        decide(claim, tries=tries)
                    self.assertEqual(caught.exception.limit, tries)
                    tries += 1
                    seen += 1
            verdict, paper = self.check(claim, tries=tries)
            self.assertEqual(paper if verdict == "shown" else paper[0], found[0] if found[1] is None else found[1])
        self.assertGreater(seen, 50)
        for name in by_words.WORDS:
            if name != "none":
                self.check(TRUE[name], tries=1)
                self.check(FALSE[name], tries=1)

    def test_200_tries_if_nothing_is_passed(self):
        # The last order, of alike nodes, can neither wait nor be left out; the others do no harm.
        down = [order for order in helper.orders(2) if order[3] < order[1] and order < (1, 0, 1, 0)]
        table = tuple(sorted([(1, 0, (1, 0, 1, 0)), (0, 1, (1, 0, 1, 0))] + [(1, 0, order) for order in down[:6]]))
        may = tuple(down[:6]) + ((1, 0, 1, 0),)
        with self.assertRaises(LimitExceeded) as caught:
            decide(("none", 2, table, may))
        self.assertEqual(caught.exception.limit, 200)
        self.assertEqual(decide(("none", 2, table, may), tries=255)[0], "shown")
        self.assertEqual(decide(("none", 2, table, may[1:]))[0], "shown")

    def test_by_names(self):
        self.assertEqual(decide(tries=2, claim=TRUE["safe"])[0], "shown")
        with self.assertRaises(TypeError):
            decide(TRUE["safe"], 200)

    def test_in_due_time(self):
        draw = random.Random(934)
        start = time.monotonic()
        for name in by_words.WORDS:
            for _ in range(4):
                certificate = decide(by_words.drawn_claim(draw, name, 2, 5))
                self.assertIsNone(first_fault(certificate))
        self.assertLess(time.monotonic() - start, 20)


if __name__ == "__main__":
    unittest.main()
