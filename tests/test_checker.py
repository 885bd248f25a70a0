"""nevergoback.checker, by points 3, 15 and 16 and the interface: row by row, by hand."""

import random
import unittest

import by_words
import helper
from nevergoback.checker import first_fault
from nevergoback.claims import decide
from nevergoback.closures import closure
from nevergoback.texts import parse_conditions
from nevergoback.trials import tree_of

DOWN = ((0, 0, (1, 0)), (0, 1, (1, 0)), (1, 0, (1, 0)), (1, 1, (1, 0)))
OWN = parse_conditions(2, "old old: v1 < u1\nold new: v1 < u1\nnew old: v2 < u2\nnew new: v2 < u2\n")
NEARER = tuple(look[2] for look in parse_conditions(2, "old old: v2 < u2\n"))
BOTH_WAYS = ((0, 1, (0, 1)), (1, 0, (1, 0)))
OPTIONS = (("wait", ((1, 0),), 3), ("forbid", ((0, 1, (0, 1)),), 5), ("wait", ((0, 0),), 3))
BIG = 10 ** 40


def put(some, *more):
    return tuple(sorted(set(some + more)))


class Case(unittest.TestCase):
    def check(self, due, verdict, claim, paper):
        certificate = (verdict, claim, paper)
        self.assertEqual(first_fault(certificate), due)
        self.assertEqual(by_words.first_fault(certificate), due)

    def shown(self, due, claim, paper):
        self.check(due, "shown", claim, paper)

    def broken(self, due, claim, paper):
        self.check(due, "broken", claim, paper)

    def no_form(self, verdict, claim, *papers):
        for paper in papers:
            self.check(("paper",), verdict, claim, paper)


class Form(Case):
    def test_example_of_the_interface(self):
        claim = ("safe", 1, ((0, 0, (0, 0)),))
        self.assertEqual((decide(claim)[0], first_fault(("shown", claim, ((0, 0, (0, 0)),)))),
                         ('broken', ('back', (0, 0, (0, 0)))))

    def test_what_is_no_triple(self):
        right = ("shown", ("safe", 1, DOWN), DOWN)
        self.assertIsNone(first_fault(right))
        for value in (None, True, 5, "shown", "abc", (), {}, list(right), right[:2], right + (1,), [right],
                      {"shown": 1, "safe": 2, "x": 3}):
            self.assertEqual(first_fault(value), ("form",))

    def test_claim_ahead_of_the_paper(self):
        for claim in (None, (), ("safe", 1, list(DOWN)), ("safe", 2, DOWN), ["safe", 1, DOWN], "safe"):
            self.check(("claim",), "shown", claim, DOWN)
            self.check(("claim",), None, claim, None)

    def test_other_verdicts(self):
        claim = ("safe", 1, DOWN)
        for verdict in ("Shown", "", "shown ", "true", None, True, 0, ["shown"], ("shown",), {}, {"shown": 1}):
            self.check(("paper",), verdict, claim, DOWN)

    def test_a_paper_of_another_row(self):
        many_papers = [(), DOWN, (DOWN, DOWN), ((0, 1), (0, 2)), ((0, 0, 1), (0, 0, 2), (0, 0, 3)),
                       ("still", ((0, 1), (0, 2))), ("round", ((0, 1), (0, 2))), ("ring", ((0, 1), (0, 2))),
                       ("empty", ((0, 1), (0, 2))), ((), (), (0, 0)), ((), (), ()), ("room", DOWN[0], DOWN),
                       ("less", (), ((), ())), ("more", ()), ((), ((), ()), ()), (("still", ((0, 1), (0, 2))),)]
        claims = [("safe", 1, DOWN), ("once", 1, DOWN), ("between", 1, DOWN, DOWN), ("calm", 1, DOWN, ()),
                  ("brings", 1, DOWN, ()), ("none", 1, DOWN, ()), ("full", 1, DOWN), ("mend", 1, DOWN, (), OPTIONS, 3),
                  ("mend", 1, DOWN, (), OPTIONS, None)]
        fits = 0
        for claim in claims:
            for verdict in ("shown", "broken"):
                for paper in many_papers + [None, True, [], "still", {}]:
                    due = by_words.first_fault((verdict, claim, paper))
                    self.assertEqual(first_fault((verdict, claim, paper)), due)
                    fits += due != ("paper",)
        self.assertGreater(fits, 20)

    def test_sets(self):
        for name, claim in (("safe", ("safe", 1, DOWN)), ("once", ("once", 1, ())),
                            ("between", ("between", 1, (), ()))):
            self.no_form("shown", claim, DOWN[::-1], DOWN[:1] * 2, list(DOWN), None, "set", {}, (None,), DOWN + OWN[:1],
                         OWN, DOWN + ((1, 1, (2, 1)),), ((0, False, (1, 0)),), ((0, 0, [1, 0]),), ((0, 2, (1, 0)),))
        self.no_form("shown", ("safe", 2, OWN), DOWN)

    def test_nodes(self):
        claim, ring = ("safe", 1, ((0, 0, (0, 0)),)), ((0, 4), (0, 4))
        self.broken(None, claim, ring)
        self.broken(None, claim, ((0, BIG), (0, BIG)))
        self.broken(None, claim, ((0, 1), (0, 1)))
        self.broken(None, claim, ring * 500)
        self.no_form("broken", claim, ring[:1], (), ring * 500 + ring[:1], list(ring), None, ((0, BIG + 1),) * 2,
                     ((0, 0),) * 2, ((0, -1),) * 2, ((0, 4), (0, True)), ((0, 4), (False, 4)), ((0, 4), (2, 4)),
                     ((0, 4), [0, 4]), ((0, 4), (0,)), ((0, 4), (0, 4, 4)), ((0, 4), None), ((0, 4), (0, "4")),
                     ((0, 4), (0, 4.0)))
        self.no_form("broken", ("between", 1, DOWN, ()), ((0, 1),), ((0, 1),) * 1001, ((0, 1), (0, BIG + 1)))

    def test_visits(self):
        claim, journey = ("once", 1, ((0, 0, (0, 0)),)), ((0, 0, 5),) * 3
        self.broken(None, claim, journey)
        self.broken(None, claim, ((0, 0, 5),) * 1000)
        self.broken(None, claim, ((0, 0, BIG),) * 3)
        self.no_form("broken", claim, ((0, 0, 5),) * 2, ((0, 0, 5),) * 1001, journey[:2] + ((1, 0, 5),),
                     journey[:2] + ((0, 0, BIG + 1),), journey[:2] + ((0, 0, 0),), journey[:2] + ((0, 0, True),),
                     journey[:2] + ((0, False, 5),), journey[:2] + ((0, 2, 5),), journey[:2] + ((0, 5),),
                     list(journey), None, (), journey[:2] + (None,))
        self.broken(("hop", 1), claim, journey[:2] + ((1, 1, 5),))


class Sets(Case):
    CLAIM = ("safe", 1, ((0, 0, (0, 1)), (0, 1, (1, 0))))
    RIGHT = ((0, 0, (0, 1)), (0, 1, (0, 0)), (0, 1, (0, 1)), (0, 1, (1, 0)))

    def test_right_ones(self):
        self.shown(None, self.CLAIM, self.RIGHT)
        self.shown(None, ("safe", 1, DOWN), DOWN)
        self.shown(None, ("safe", 1, ()), ())
        # A wider set that is closed and has no look back will do.
        self.shown(None, self.CLAIM, put(self.RIGHT, (1, 1, (0, 1))))
        self.shown(None, ("safe", 1, DOWN[:1]), DOWN)

    def test_lacks(self):
        self.shown(("lacks", (0, 0, (0, 1))), self.CLAIM, ())
        self.shown(("lacks", (0, 0, (0, 1))), self.CLAIM, self.RIGHT[1:])
        self.shown(("lacks", (0, 1, (1, 0))), self.CLAIM, self.RIGHT[:-1])
        # Ahead of open and back.
        self.shown(("lacks", (0, 1, (1, 0))), self.CLAIM, ((0, 0, (0, 0)), (0, 0, (0, 1))))

    def test_open(self):
        self.shown(("open", (0, 0, (0, 1)), (0, 1, (1, 0))), self.CLAIM, self.CLAIM[2])
        self.shown(("open", (0, 0, (0, 1)), (0, 1, (1, 0))), self.CLAIM, put(self.RIGHT[:1] + self.RIGHT[2:]))
        # The first look of the set, then the first one of the table; ahead of back.
        self.shown(("open", (0, 0, (0, 1)), (0, 1, (1, 0))), ("safe", 1, ((0, 1, (1, 0)),)),
                   ((0, 0, (0, 0)), (0, 0, (0, 1)), (0, 1, (1, 0))))
        self.shown(("open", (0, 0, (1, 0)), (0, 0, (0, 1))), ("safe", 1, ((0, 0, (0, 1)),)),
                   ((0, 0, (0, 1)), (0, 0, (1, 0))))

    def test_back(self):
        table = ((0, 0, (0, 1)), (0, 0, (1, 0)))
        self.shown(("back", (0, 0, (0, 0))), ("safe", 1, table), closure(table))
        self.shown(("back", (1, 1, (0, 0))), self.CLAIM, put(self.RIGHT, (1, 1, (0, 0))))
        self.shown(("back", (0, 0, (0, 0))), ("safe", 1, DOWN), put(DOWN, (0, 0, (0, 0)), (1, 1, (0, 0))))
        self.shown(("back", (0, 0, (0, 0))), ("safe", 1, helper.looks(1)), helper.looks(1))

    def test_two_numbers(self):
        table = ((0, 0, (0, 1, 1, 0)), (0, 1, (1, 0, 0, 1)))
        right = ((0, 0, (0, 1, 1, 0)), (0, 1, (0, 1, 0, 1)), (0, 1, (1, 0, 0, 1)))
        self.shown(None, ("safe", 2, table), right)
        self.shown(("open", right[0], right[2]), ("safe", 2, table), table)
        self.shown(("lacks", right[2]), ("safe", 2, table), right[:2])

    def test_between(self):
        table, right = self.CLAIM[2], self.RIGHT
        self.shown(None, ("between", 1, table, right), right)
        self.shown(None, ("between", 1, table, helper.looks(1)), right)
        self.shown(("beyond", (0, 1, (0, 1))), ("between", 1, table, right[:2] + right[3:]), right)
        self.shown(("beyond", (0, 0, (0, 1))), ("between", 1, table, ()), right)
        self.shown(("lacks", (0, 0, (0, 1))), ("between", 1, table, ()), ())
        self.shown(("open", (0, 0, (0, 1)), (0, 1, (1, 0))), ("between", 1, table, ()), table)
        # A look back may be between.
        self.shown(None, ("between", 1, ((0, 0, (0, 0)),), ((0, 0, (0, 0)),)), ((0, 0, (0, 0)),))
        self.shown(("beyond", (1, 1, (0, 1))), ("between", 1, table, right), put(right, (1, 1, (0, 1))))

    def test_once(self):
        table = ((0, 0, (1, 0)), (1, 1, (1, 0)))
        # A node may go on between two hops, so all these are between.
        right = ((0, 0, (1, 0)), (0, 1, (1, 0)), (1, 1, (1, 0)))
        self.shown(None, ("once", 1, table), right)
        self.shown(("lacks", (0, 0, (1, 0)), (0, 0, (1, 0))), ("once", 1, table), ())
        self.shown(("lacks", (0, 0, (1, 0)), (0, 0, (1, 0))), ("once", 1, table), right[1:])
        self.shown(("lacks", (0, 0, (1, 0)), (1, 1, (1, 0))), ("once", 1, table), right[:1] + right[2:])
        self.shown(("lacks", (1, 1, (1, 0)), (1, 1, (1, 0))), ("once", 1, table), right[:2])
        self.shown(("back", (0, 1, (0, 0))), ("once", 1, ()), ((0, 1, (0, 0)), (1, 1, (0, 0))))
        self.shown(None, ("once", 1, ()), ((1, 0, (0, 0)),))
        self.shown(("open", (1, 0, (0, 0)), (0, 0, (1, 0))), ("once", 1, table), put(right, (1, 0, (0, 0))))
        self.shown(None, ("once", 1, ((0, 1, (1, 0)),)), ())
        # The looks of the table themselves may be missing.
        self.shown(None, ("once", 1, ((0, 1, (0, 0)),)), ())
        self.shown(("open", (0, 0, (0, 1)), (0, 0, (1, 0))), ("once", 1, table), put(right, (0, 0, (0, 1))))


class Rings(Case):
    def test_hops(self):
        claim = ("safe", 1, ((0, 0, (0, 1)), (0, 0, (1, 0))))
        self.broken(None, claim, ((0, 1), (0, 2)))
        self.broken(None, claim, ((0, 1), (0, 2), (0, 3)))
        self.broken(("hop", 0), claim, ((0, 1), (0, 1)))
        self.broken(("hop", 2), claim, ((0, 1), (0, 2), (0, 1)))
        self.broken(("hop", 1), claim, ((0, 1), (0, 2), (1, 3)))
        self.broken(("hop", 1), ("safe", 1, ((0, 0, (0, 1)),)), ((0, 1), (0, 2)))
        self.broken(("hop", 0), ("safe", 1, ()), ((0, 1), (0, 2)))

    def test_rings_of_many_nodes(self):
        table = ((0, 0, (0, 1)), (0, 1, (1, 0)), (1, 0, (1, 0)))
        ring = tuple((0, at + 1) for at in range(999)) + ((1, 500),)
        claim = ("safe", 1, table)
        self.broken(None, claim, ring)
        self.broken(None, claim, ring[400:] + ring[:400])
        self.broken(("hop", 998), claim, ring[:-1])
        self.broken(("hop", 0), claim, ring[::-1])
        self.broken(("hop", 500), claim, ring[:501] + ring[500:501] + ring[502:])
        self.no_form("broken", claim, ring[:1] + ring)

    def test_walks(self):
        claim = ("between", 1, ((0, 0, (1, 0)),), ((0, 0, (0, 1)),))
        self.broken(None, claim, ((0, 2), (0, 1)))
        self.broken(None, claim, ((0, 3), (0, 2), (0, 1)))
        self.broken(("hop", 1), claim, ((0, 3), (0, 2), (0, 2)))
        self.broken(("within",), ("between", 1, ((0, 0, (1, 0)),), ((0, 0, (1, 0)),)), ((0, 3), (0, 2), (0, 1)))
        self.broken(("hop", 0), ("between", 1, ((0, 0, (1, 0)),), ((0, 0, (0, 1)),)), ((0, 1), (0, 2)))
        # The last node hands on to nobody.
        self.broken(None, ("between", 1, ((0, 0, (1, 0)),), ()), tuple((0, 1000 - at) for at in range(1000)))

    def test_journeys(self):
        table = ((0, 0, (1, 0)), (1, 1, (0, 1)))
        claim = ("once", 1, table)
        back = ((0, 0, 5), (0, 1, 3), (1, 1, 5))
        self.broken(None, claim, back)
        self.broken(None, claim, ((0, 0, 5), (0, 0, 4), (0, 1, 3), (1, 1, 4), (1, 1, 5)))
        self.broken(("back",), claim, ((0, 0, 5), (0, 1, 3), (1, 1, 6)))
        self.broken(("hop", 1), claim, ((0, 0, 5), (0, 0, 3), (1, 1, 5)))
        self.broken(("hop", 0), claim, ((0, 1, 5), (0, 1, 3), (1, 1, 5)))
        self.broken(("hop", 0), claim, ((0, 0, 5), (1, 1, 3), (1, 1, 5)))
        # The packet is back only where a node has, at the end, not less than its standing at the beginning.
        table = ((0, 0, (0, 1)), (1, 0, (1, 0)))
        self.broken(("back",), ("once", 1, table), ((1, 1, 5), (0, 0, 4), (0, 0, 5)))
        self.broken(None, ("once", 1, put(table, (0, 1, (0, 1)))), ((0, 1, 5), (0, 0, 4), (1, 1, 5)))
        self.broken(None, ("once", 1, put(table, (0, 1, (0, 1)))), ((1, 1, 5), (0, 0, 4), (1, 1, 5)))


class Plans(Case):
    def test_calm_shown(self):
        right = decide(("calm", 2, OWN, NEARER))[2]
        claim = ("calm", 2, OWN, NEARER)
        self.shown(None, claim, right)
        waiting = helper.waiting(NEARER)
        self.shown(("still", ("lacks", waiting[0])), claim, ((), ()))
        self.shown(("still", ("lacks", waiting[-1])), claim, (right[0][:-1], right[1]))
        self.shown(("round", ("lacks", helper.uncut(OWN, NEARER)[0])), claim, (right[0], ()))
        self.shown(("round", ("back", (0, 0, (0, 0)))), ("calm", 1, (), ()), ((), ((0, 0, (0, 0)),)))
        self.shown(("still", ("back", (0, 0, (0, 0)))), ("calm", 1, (), ()), (((0, 0, (0, 0)),),) * 2)
        table = ((0, 0, (0, 1)), (0, 1, (1, 0)))
        self.shown(("round", ("open", (0, 0, (0, 1)), (0, 1, (1, 0)))), ("calm", 1, table, ()), ((), table))
        self.shown(("still", ("open", (0, 0, (1, 0)), (0, 0, (0, 1)))), ("calm", 1, (), ((0, 1),)),
                   (((0, 0, (0, 1)), (0, 0, (1, 0))), ()))
        self.no_form("shown", claim, right[:1], right + right[:1], list(right), right[0], (right[0], list(right[1])),
                     (right[0], None), ("still", right[0]))

    def test_what_is_cut_need_not_be_in_the_set(self):
        self.shown(None, ("calm", 1, BOTH_WAYS, ((1, 0),)), (((0, 0, (1, 0)),), ()))
        self.shown(("round", ("lacks", BOTH_WAYS[0])), ("calm", 1, BOTH_WAYS, ()), ((), ()))

    def test_calm_broken(self):
        for name in ("calm", "brings"):
            ring = ((0, 2), (1, 1))
            self.broken(None, (name, 1, put(BOTH_WAYS, (0, 1, (1, 0)), (1, 0, (0, 1))), ()), ("round", ring))
            self.broken(("hop", 0), (name, 1, BOTH_WAYS, ((1, 0),)), ("round", ((1, 2), (0, 1))))
            self.broken(None, (name, 1, BOTH_WAYS, ()), ("round", ((1, 2), (0, 1))))
            self.broken(("hop", 0), (name, 1, BOTH_WAYS, ()), ("still", ((1, 2), (0, 1))))
            waits = ((0, 1), (1, 0))
            self.broken(None, (name, 1, (), waits), ("still", ((0, 1), (0, 2))))
            self.broken(("hop", 1), (name, 1, (), waits), ("still", ((0, 1), (0, 2), (0, 2))))
            self.broken(("hop", 0), (name, 1, (), waits), ("still", ((1, 1), (1, 2))))
            self.broken(("hop", 0), (name, 1, (), waits), ("round", ((0, 1), (0, 2))))
            self.no_form("broken", (name, 1, (), waits), ("Still", ring), ("still", ring, ring), ("still",), ring,
                         ["still", ring], ("still", list(ring)), ("still", ring[:1]), (None, ring),
                         (["still"], ring), ("ring", ring))

    def test_places(self):
        claim = ("brings", 1, DOWN, ())
        self.shown(None, claim, ((), DOWN, (0, 0)))
        for places in ((0,), (0, 0, 0), (0, 1), (0, -1), (0, False), (0, None), [0, 0], None, (), 0):
            self.no_form("shown", claim, ((), DOWN, places))
        self.no_form("shown", claim, ((), DOWN), ((), DOWN, (0, 0), ()), [(), DOWN, (0, 0)], ((), (0, 0), DOWN))
        right = decide(("brings", 2, OWN, NEARER))[2]
        claim = ("brings", 2, OWN, NEARER)
        self.assertEqual(right[2], (0, 0, 0, 1, 1, 1))
        self.shown(None, claim, right)
        self.shown(("still", ("lacks", helper.waiting(NEARER)[0])), claim, ((),) + right[1:])
        self.shown(("round", ("lacks", helper.uncut(OWN, NEARER)[0])), claim, (right[0], (), right[2]))
        for at, kind in enumerate(by_words.KINDS[2]):
            places = right[2][:at] + (1 - right[2][at],) + right[2][at + 1:]
            lacks = by_words.lacks_for(2, OWN, NEARER, kind, places[at])
            self.shown(("missing", at, lacks[0]), claim, right[:2] + (places,))
            self.no_form("shown", claim, right[:2] + (places + (0,),), right[:2] + (places[:5],))
        self.shown(("missing", 0, by_words.lacks_for(2, OWN, NEARER, (0, (0, 0)), 1)[0]), claim,
                   right[:2] + ((1, 1, 1, 0, 0, 0),))

    def test_missing(self):
        self.shown(("missing", 1, (1, 0, (1, 0))), ("brings", 1, DOWN[:2] + DOWN[3:], ()),
                   ((), DOWN, (0, 0)))
        self.shown(("missing", 0, (0, 0, (1, 0))), ("brings", 1, DOWN[1:], ()), ((), DOWN, (0, 0)))
        self.shown(("missing", 0, (0, 1, (1, 0))), ("brings", 1, DOWN[:1], ()), ((), DOWN, (0, 0)))
        # What is cut is not missing.
        self.shown(None, ("brings", 1, DOWN[:2] + DOWN[3:], ((1, 0),)), (((0, 0, (1, 0)),), DOWN, (0, 0)))

    def test_empty(self):
        claim = ("brings", 1, DOWN[:1], ())
        self.broken(None, claim, ("empty", ((1, 5), (1, 4))))
        self.broken(None, claim, ("empty", ((0, BIG), (1, 4))))
        self.broken(("less", 0), claim, ("empty", ((1, 5), (1, 5))))
        self.broken(("less", 0), claim, ("empty", ((0, 5), (0, 6))))
        self.broken(("told", 0), claim, ("empty", ((0, 5), (0, 4))))
        self.broken(("cut", 0), ("brings", 1, DOWN[:1], ((1, 0),)), ("empty", ((1, 5), (0, 4))))
        self.broken(("told", 0), ("brings", 1, DOWN, ((1, 0),)), ("empty", ((1, 5), (0, 4))))
        self.broken(("less", 0), ("brings", 1, ((1, 0, (0, 1)),), ((0, 1),)), ("empty", ((1, 5), (0, 6))))
        self.no_form("broken", claim, ("empty", ((1, 5),)), ("empty", ((1, 5), (1, 4), (1, 4))),
                     ("empty", [(1, 5), (1, 4)]),
                     ("empty", ((1, 5), (1, BIG + 1))), ("empty", ((1, 5), (1, 0))), ("empty",), ((1, 5), (1, 4)),
                     ("empty", ((1, 5), (1, 4)), 0), ("empty", None), ("empty", ((1, 5), (2, 4))))

    def test_empty_with_two_numbers(self):
        claim = ("brings", 2, ((0, 0, (1, 1, 0, 0)),), ((1, 1, 0, 0),))
        self.broken(None, claim, ("empty", ((0, 5, 5), (0, 4, 5), (0, 5, 4))))
        self.broken(("less", 0), claim, ("empty", ((0, 5, 5), (0, 5, 4), (0, 4, 5))))
        self.broken(("less", 1), claim, ("empty", ((0, 5, 5), (0, 4, 5), (0, 4, 5))))
        self.broken(("told", 0), claim, ("empty", ((0, 5, 5), (0, 4, 4), (0, 6, 6))))
        self.broken(("told", 1), claim, ("empty", ((0, 5, 5), (0, 4, 5), (0, 4, 4))))
        self.broken(("cut", 1), claim, ("empty", ((1, 5, 5), (1, 4, 4), (0, 4, 4))))
        self.broken(("less", 0), claim, ("empty", ((1, 5, 5), (1, 6, 4), (0, 4, 4))))
        self.no_form("broken", claim, ("empty", ((0, 5, 5), (0, 4, 5))), ("empty", ((0, 5), (0, 4))),
                     ("empty", ((0, 5, 5), (0, 4, 5), (0, 5, 4), (0, 5, 4))))


def chained(orders, leaf, last=None):
    """A tree that decides one order behind the other: a leaf behind each, perhaps another one where all wait."""
    found = last or leaf
    for order in reversed(orders):
        found = (order, found, leaf)
    return found


def chained_idle(orders, leaf):
    """The same, where all do not wait."""
    found = leaf
    for order in reversed(orders):
        found = (order, leaf, found)
    return found


def wide(leaf, leaves, orders):
    """A tree of so many leaves that is not deep."""
    if leaves == 1:
        return leaf
    return (orders[0], wide(leaf, leaves // 2, orders[1:]), wide(leaf, leaves - leaves // 2, orders[1:]))


def wide_to(orders, last, leaf):
    """A tree of 13 leaves, the last one another one."""
    found = last
    for order in orders[:12]:
        found = (order, leaf, found)
    return found


class Trees(Case):
    TABLE = BOTH_WAYS
    RING = ((1, 2), (0, 1))

    def test_leaves(self):
        claim, leaf = ("none", 1, self.TABLE, ((0, 0), (0, 1))), ("round", self.RING)
        self.shown(None, claim, leaf)
        self.shown(None, claim, ("round", self.RING[::-1]))
        self.shown(("leaf", (), 0), claim, ("round", ((1, 1), (0, 2))))
        self.shown(("leaf", (), 1), claim, ("round", ((1, 2), (0, 1), (0, 1))))
        self.shown(("leaf", (), 0), claim, ("still", self.RING))
        # Both hops need the order (1, 0).
        claim = ("none", 1, self.TABLE, ((1, 0),))
        self.shown(("leaf", (), 0), claim, leaf)
        self.shown(("leaf", (1,), 0), claim, ((1, 0), leaf, leaf))
        claim = ("none", 1, put(self.TABLE, (1, 1, (0, 0))), ((1, 0),))
        alike = ("round", ((1, 3), (1, 3)))
        self.shown(None, claim, alike)
        self.shown(None, claim, ((1, 0), alike, leaf))
        self.shown(("leaf", (1,), 0), claim, ((1, 0), leaf, alike))

    def test_still_leaves(self):
        claim = ("none", 1, ((1, 0, (0, 0)), (0, 1, (0, 0)))[::-1], ((0, 0), (0, 1), (1, 0)))
        still, around = ("still", ((0, 3), (0, 3))), ("round", ((1, 3), (0, 3)))
        self.shown(None, claim, ((0, 0), still, around))
        self.shown(("leaf", (1,), 0), claim, ((0, 0), around, still))
        self.shown(("leaf", (0,), 0), claim, ((0, 0), still, still))
        self.shown(("leaf", (1,), 0), claim, ((0, 0), ("still", ((1, 3), (1, 3))), around))
        self.shown(("leaf", (1,), 1), claim, ((0, 0), ("still", ((0, 3), (0, 3), (1, 3))), around))
        up = ("still", ((0, 3), (0, 4)))
        self.shown(("leaf", (1,), 0), claim, ((0, 0), up, around))
        self.shown(None, claim, ((0, 1), ((1, 0), up, ((0, 0), still, around)), ((0, 0), still, around)))
        self.shown(("leaf", (1, 0), 1), claim, ((0, 1), ((1, 0), up, up), ((0, 0), still, around)))
        self.shown(("leaf", (0, 1, 0), 0), claim, (
            (0, 1), ((1, 0), up, ((0, 0), still, around)), ((1, 0), ((0, 0), still, still), around)))

    def test_orders(self):
        claim = ("none", 1, put(self.TABLE, (0, 0, (0, 0))), ((0, 0), (1, 0)))
        leaf = ("round", ((0, 3), (0, 3)))
        self.shown(None, claim, ((0, 0), leaf, ((1, 0), leaf, leaf)))
        # A node ahead of its trees.
        self.shown(("order", ()), claim, ((0, 1), ("round", self.RING), leaf))
        self.shown(("order", (1,)), claim, ((0, 0), ((0, 0), leaf, leaf), leaf))
        self.shown(("order", (0,)), claim, ((0, 0), leaf, ((0, 0), leaf, leaf)))
        self.shown(("order", (0, 1)), claim, ((0, 0), leaf, ((1, 0), ((0, 1), leaf, leaf), leaf)))
        self.shown(("order", (0, 0)), claim, ((0, 0), leaf, ((1, 0), leaf, ((0, 0), leaf, leaf))))
        # One order may stand on two ways.
        self.shown(None, claim, ((0, 0), ((1, 0), leaf, leaf), ((1, 0), leaf, leaf)))
        self.shown(("leaf", (1,), 0), claim, ((0, 0), ("still", ((0, 1), (0, 2))), ((0, 0), leaf, leaf)))

    def test_trees_exchanged(self):
        draw = random.Random(941)
        down = [order for order in helper.orders(2) if order[3] < order[1]]
        orders = tuple(sorted(draw.sample(down, 6)))
        table = tuple(sorted(look for order in orders for look in ((1, 0, order), (0, 1, helper.flip(order)))))
        table = put(table, (0, 1, (1, 0, 1, 0)), (1, 0, (1, 0, 1, 0)))
        may = put(orders, (1, 0, 1, 0))
        tree = tree_of(2, table, may, tries=5000)
        self.shown(None, ("none", 2, table, may), tree)
        exchanged = (tree[0], tree[2], tree[1])
        self.assertIsNotNone(first_fault(("shown", ("none", 2, table, may), exchanged)))
        self.shown(by_words.first_fault(("shown", ("none", 2, table, may), exchanged)), ("none", 2, table, may),
                   exchanged)

    def test_depth(self):
        table = ((1, 1, (0, 0, 0, 0)),)
        leaf, orders = ("round", ((1, 3, 3), (1, 3, 3))), helper.orders(2)
        claim = ("none", 2, table, orders)
        self.assertEqual(len(orders), 75)
        self.shown(None, claim, chained(orders, leaf))
        self.shown(None, claim, chained(orders[::-1], leaf))
        self.shown(None, claim, chained_idle(orders, leaf))
        self.no_form("shown", claim, chained(orders + orders[:1], leaf), chained(orders[:1] + orders, leaf),
                     chained_idle(orders + orders[:1], leaf))
        self.shown(("order", (0,) * 74), claim, chained_idle(orders[:74] + orders[:1], leaf))
        self.shown(("order", (1,) * 74), claim, chained(orders[:74] + orders[:1], leaf))
        self.shown(("order", (1,)), claim, chained(orders[:1] + orders[:74], leaf))
        self.shown(("leaf", (1,) * 75, 0), claim, chained(orders, leaf, ("round", ((1, 3, 3), (1, 4, 3)))))

    def test_many_leaves(self):
        table = ((1, 1, (0, 0, 0, 0)),)
        leaf, orders = ("round", ((1, 3, 3), (1, 3, 3))), helper.orders(2)
        claim = ("none", 2, table, orders)
        self.shown(None, claim, wide(leaf, 2500, orders))
        self.no_form("shown", claim, wide(leaf, 2501, orders), wide(leaf, 4000, orders))
        self.shown(("leaf", (0,) * 12, 1), claim, wide_to(orders, ("round", ((1, 3, 3), (1, 3, 3), (1, 4, 3))), leaf))

    def test_the_same_tree_on_both_ways(self):
        # Each way to a leaf counts, though there are but few trees.
        leaf = ("round", ((1, 3, 3), (1, 3, 3)))
        found = leaf
        for order in helper.orders(2):
            found = (order, found, found)
        self.no_form("shown", ("none", 2, ((1, 1, (0, 0, 0, 0)),), helper.orders(2)), found)

    def test_what_is_no_tree(self):
        claim, leaf = ("none", 1, self.TABLE, ((1, 0),)), ("round", self.RING)
        self.no_form("shown", claim, ((1, 0), leaf), ((1, 0), leaf, leaf, leaf), [(1, 0), leaf, leaf],
                     ((1, 0), leaf, None),
                     ((1, 0), leaf, list(leaf)), ([1, 0], leaf, leaf), ((1, 1), leaf, leaf), ((1, 0, 0), leaf, leaf),
                     ((True, 0), leaf, leaf), (None, leaf, leaf), ((1, 0), leaf, ("ring", self.RING)), None, (),
                     "round",
                     ("round",), ("round", self.RING[:1]), ("round", None),
                     ((1, 0), leaf, ("still", ((0, BIG + 1),) * 2)),
                     ((0, 0, 0, 0), leaf, leaf), ((1, 0), leaf, ((1, 0), leaf, {})))

    def test_waits(self):
        claim = ("none", 1, self.TABLE, ((0, 0), (1, 0)))
        still = ((0, 0, (1, 0)),)
        self.broken(None, claim, (((1, 0),), still, ()))
        self.broken(("may",), claim, (((0, 1),), ((0, 0, (0, 1)),), ()))
        self.broken(("may",), claim, (((0, 1), (1, 0)), still, ()))
        self.broken(("still", ("lacks", still[0])), claim, (((1, 0),), (), ()))
        self.broken(("round", ("lacks", BOTH_WAYS[0])), claim, ((), (), ()))
        self.broken(("still", ("back", (0, 0, (0, 0)))), claim, (((0, 0),), ((0, 0, (0, 0)),), ()))
        self.no_form("broken", claim, (((1, 0), (1, 0)), still, ()), (((1, 0), (0, 0)), still, ()),
                     ([(1, 0)], still, ()),
                     (((1, 0),), still), (still, still, ()), (((1, 0),), still, (), ()), (((1, 0),), (still, ())))


class FullTables(Case):
    FULL = tuple(sorted(DOWN + ((0, 1, (0, 0)),)))

    def test_shown(self):
        claim = ("full", 1, self.FULL)
        right = decide(claim)[2]
        some, rings = right
        self.shown(None, claim, right)
        self.assertEqual(len(rings), 7)
        self.shown(None, claim, (some, tuple(ring[1:] + ring[:1] for ring in rings)))
        self.shown(("lacks", self.FULL[0]), claim, ((), rings))
        self.shown(("back", (1, 1, (0, 0))), claim, (put(some, (1, 1, (0, 0))), rings))
        self.shown(("open", (0, 0, (0, 1)), (0, 0, (1, 0))), claim, (put(some, (0, 0, (0, 1))), rings))
        for at in range(7):
            wrong = rings[:at] + (((0, 1), (0, 2), (0, 1)),) + rings[at + 1:]
            due = by_words.first_fault(("shown", claim, (some, wrong)))
            self.assertEqual(due[:2], ("ring", at))
            self.shown(due, claim, (some, wrong))
            self.no_form("shown", claim, (some, rings[:at] + rings[at + 1:]),
                         (some, rings[:at] + rings[at:at + 1] + rings[at:]))
        swapped = (rings[1], rings[0]) + rings[2:]
        self.shown(by_words.first_fault(("shown", claim, (some, swapped))), claim, (some, swapped))
        self.assertEqual(first_fault(("shown", claim, (some, swapped)))[:2], ("ring", 0))
        self.no_form("shown", claim, some, (some,), (some, rings, ()), (some, list(rings)), (rings, some),
                     (some, rings[:6] + (rings[6][:1],)), (some, rings[:6] + (((0, 0), (0, 0)),)))

    def test_rings_of_the_table_with_a_look(self):
        claim, ring = ("full", 1, ()), ((0, 3), (0, 3))
        self.shown(("ring", 1, ("hop", 0)), claim, ((), (ring,) + (ring,) * 11))
        self.shown(("ring", 0, ("hop", 1)), claim, ((), (((0, 3), (0, 3), (0, 4)),) * 12))

    def test_broken(self):
        claim = ("full", 1, DOWN)
        self.broken(None, claim, ("room", (0, 1, (0, 0)), self.FULL))
        self.broken(("there",), claim, ("room", (0, 1, (1, 0)), self.FULL))
        self.broken(("there",), claim, ("room", (0, 1, (1, 0)), ()))
        self.broken(("lacks", (0, 1, (0, 0))), claim, ("room", (0, 1, (0, 0)), DOWN))
        self.broken(("lacks", (0, 0, (0, 0))), claim, ("room", (0, 0, (0, 0)), self.FULL))
        self.broken(("back", (0, 0, (0, 0))), claim, ("room", (0, 0, (0, 0)), put(DOWN, (0, 0, (0, 0)))))
        self.broken(("open", (0, 0, (0, 1)), (0, 0, (1, 0))), claim,
                    ("room", (0, 0, (0, 1)), put(DOWN, (0, 0, (0, 1)))))
        self.broken(None, ("full", 1, ((0, 0, (0, 0)),)), ("ring", ((0, 3), (0, 3))))
        self.broken(("hop", 0), claim, ("ring", ((0, 3), (0, 3))))
        self.broken(("hop", 1), claim, ("ring", ((0, 3), (0, 2))))
        self.no_form("broken", claim, ("rooms", (0, 1, (0, 0)), self.FULL), ("ring", (0, 1, (0, 0)), self.FULL),
                     (None, (0, 1, (0, 0)), self.FULL), ("room", (0, 1, (0, 0))), ("room", (0, 1), DOWN),
                     ("room", None, DOWN),
                     ("room", (0, 1, (0, 0)), list(DOWN)), ("room", [0, 1, (0, 0)], DOWN), ("ring", ((0, 3),)),
                     ("ring",), ("ring", ((0, 3), (0, 3)), ()), ((0, 3), (0, 3)), ("round", ((0, 3), (0, 3))),
                     ("room", OWN[0], DOWN), ["ring", ((0, 3), (0, 3))], ("room", (0, True, (0, 0)), DOWN))


class Mends(Case):
    AROUND = ("round", ((1, 2), (0, 1)))
    SETS = (((0, 0, (1, 0)),), ())

    def claim(self, least, options=OPTIONS):
        return ("mend", 1, BOTH_WAYS, (), options, least)

    def test_shown(self):
        # Choices by cost: (), (0,), (2,), (1,), (0, 2), ..
        claim, breaks = self.claim(3), (self.AROUND,)
        self.shown(None, claim, ((0,), self.SETS, breaks))
        self.shown(("cost",), claim, ((), self.SETS, breaks))
        self.shown(("cost",), claim, ((1,), ((), ()), ()))
        self.shown(("cost",), self.claim(4), ((0,), self.SETS, breaks))
        self.shown(("still", ("lacks", (0, 0, (1, 0)))), claim, ((0,), ((), ()), breaks))
        self.shown(("round", ("back", (0, 0, (0, 0)))), claim, ((0,), (self.SETS[0], ((0, 0, (0, 0)),)), ()))
        self.shown(("still", ("back", (0, 0, (0, 0)))), claim, ((2,), (((0, 0, (0, 0)),), ()), breaks))
        self.shown(("many",), claim, ((0,), self.SETS, ()))
        self.shown(("many",), claim, ((0,), self.SETS, breaks * 2))
        self.shown(("break", 0, ("hop", 0)), claim, ((0,), self.SETS, (("still", ((0, 1), (0, 1))),)))
        self.shown(("break", 0, ("hop", 1)), claim, ((0,), self.SETS, (("round", ((1, 2), (0, 1), (0, 1))),)))

    def test_shown_with_breaks_for_dearer_choices(self):
        claim = self.claim(5)
        breaks = (self.AROUND, self.AROUND, ("still", ((0, 7), (0, 7))))
        # The choice that costs 3 mends, so there is no right break for it.
        self.shown(("break", 1, ("hop", 0)), claim, ((1,), ((), ((1, 0, (1, 0)),)), breaks))
        dear = (OPTIONS[1], ("wait", ((0, 0),), 1))
        right = ((0,), ((), ((1, 0, (1, 0)),)), (self.AROUND, ("still", ((0, 7), (0, 7)))))
        self.shown(None, self.claim(5, dear), right)
        self.shown(None, self.claim(5, dear), right[:2] + ((self.AROUND, ("round", ((1, 2), (0, 1)))),))
        self.shown(("break", 0, ("hop", 0)), self.claim(5, dear), right[:2] + (right[2][::-1],))

    def test_form_of_what_is_shown(self):
        claim, breaks = self.claim(3), (self.AROUND,)
        for choice in ((3,), (-1,), (0, 0), (1, 0), [0], None, 0, (False,), (0, 1, 2, 3), ("0",), ((0,),)):
            self.no_form("shown", claim, (choice, self.SETS, breaks))
        self.no_form("shown", claim, ((0,), self.SETS[:1], breaks), ((0,), self.SETS + ((),), breaks),
                     ((0,), self.SETS),
                     ((0,), self.SETS, list(breaks)), ((0,), self.SETS, self.AROUND), ((0,), self.SETS, breaks, ()),
                     ((0,), self.SETS, (None,)), ((0,), self.SETS, (("empty", self.AROUND[1]),)), breaks, (),
                     ((0,), list(self.SETS), breaks), [(0,), self.SETS, breaks],
                     ((0,), self.SETS, (("round", self.AROUND[1][:1]),)), ("less", (0,), self.SETS))

    def test_none_does(self):
        options = (("wait", ((0, 0),), 1), ("wait", ((0, 1),), 0))
        breaks = (self.AROUND, self.AROUND, ("still", ((0, 7), (0, 7))), self.AROUND)
        self.assertEqual(by_words.all_choices(options), [(), (1,), (0,), (0, 1)])
        self.shown(None, self.claim(None, options), breaks)
        self.shown(("many",), self.claim(None, options), breaks[:3])
        self.shown(("many",), self.claim(None, options), breaks + breaks[:1])
        self.shown(("many",), self.claim(None, options), ())
        self.shown(("break", 1, ("hop", 0)), self.claim(None, options),
                   breaks[:1] + breaks[2:3] + breaks[1:2] + breaks[3:])
        self.shown(("break", 1, ("hop", 0)), self.claim(None), (self.AROUND,) * 8)
        self.no_form("shown", self.claim(None, options), ((), ((), ()), breaks), list(breaks), None, ("more", breaks))

    def test_less(self):
        for least in (None, 4, 5, 400):
            self.broken(None, self.claim(least), ("less", (0,), self.SETS))
            self.broken(("still", ("lacks", (0, 0, (1, 0)))), self.claim(least), ("less", (0,), ((), ())))
            self.broken(("round", ("lacks", BOTH_WAYS[0])), self.claim(least), ("less", (), ((), ())))
        for least in (0, 2, 3):
            self.broken(("cost",), self.claim(least), ("less", (0,), self.SETS))
            self.broken(("cost",), self.claim(least), ("less", (0,), ((), ())))
        self.no_form("broken", self.claim(None), ("less", (3,), self.SETS), ("less", (0,)), ("less", (0,), *self.SETS),
                     ("Less", (0,), self.SETS), ("less", [0], self.SETS), ("less", (0,), self.SETS, ()),
                     ((0,), self.SETS), ("less", (0, 0), self.SETS), (), None, ("less",))

    def test_more(self):
        self.broken(None, self.claim(0), ("more", (self.AROUND,)))
        self.broken(None, self.claim(2), ("more", (self.AROUND,)))
        self.broken(("break", 1, ("hop", 0)), self.claim(3), ("more", (self.AROUND,) * 3))
        self.broken(("many",), self.claim(3), ("more", (self.AROUND,)))
        self.broken(("many",), self.claim(3), ("more", (self.AROUND,) * 4))
        self.broken(("many",), self.claim(2), ("more", ()))
        self.broken(("break", 0, ("hop", 0)), self.claim(2), ("more", (("still", self.AROUND[1]),)))
        # For None there is none that could cost more.
        self.no_form("broken", self.claim(None), ("more", (self.AROUND,)), ("more", ()), ("more", (self.AROUND,) * 8))
        self.no_form("broken", self.claim(2), ("more",), ("more", (self.AROUND,), ()), ("more", self.AROUND),
                     (self.AROUND,),
                     ("more", [self.AROUND]), ["more", (self.AROUND,)], ("more", (self.AROUND, None)))


if __name__ == "__main__":
    unittest.main()
