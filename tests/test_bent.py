"""nevergoback.checker, by points 3 and 16: drawn certificates, bent, judged once more word by word."""

import random
import time
import unittest

import by_words
import helper
from nevergoback.checker import first_fault
from nevergoback.claims import decide


def all_parts(value):
    """All parts of nested tuples, the whole one first."""
    return [by_words.part_at(value, way) for way in by_words.places_in(value, 3000)]


def moved(draw, many, nodes):
    """Walks, rings or journeys with a node otherwise, left out, put in, or turned."""
    at = draw.randrange(len(nodes))
    node = list(nodes[at])
    place = draw.randrange(len(node))
    standings = len(node) - many
    node[place] = draw.choice((0, 1)) if place < standings else max(1, node[place] + draw.choice((-1, 1, 7)))
    return draw.choice((
        nodes[:at] + (tuple(node),) + nodes[at + 1:], nodes[:at] + nodes[at + 1:],
        nodes[:at] + (tuple(node),) + nodes[at:],
        nodes[at:] + nodes[:at], nodes[::-1], nodes + nodes))


def resized(draw, some, rows):
    """A set with a part left out or put in."""
    if some and draw.random() < 0.5:
        return tuple(sorted(set(some) - {draw.choice(some)}))
    return tuple(sorted(set(some) | {draw.choice(rows)}))


def worked_on(draw, many, paper):
    """A paper one part of which is changed so that it mostly keeps its form."""
    looks, orders = frozenset(helper.looks(many)), frozenset(helper.orders(many))
    kinds = len(by_words.KINDS[many])
    if len(paper) == 3 and type(paper[2]) is tuple and len(paper[2]) == kinds and draw.random() < 0.4:
        return by_words.put_at(paper, (2, draw.randrange(kinds)), draw.randrange(many))
    ways = by_words.places_in(paper, 3000)
    for _ in range(40):
        way = draw.choice(ways)
        part = by_words.part_at(paper, way)
        if part in ("still", "round"):
            return by_words.put_at(paper, way, draw.choice(("still", "round")))
        if type(part) is not tuple:
            continue
        if all(type(inner) is tuple and inner in looks for inner in part) and draw.random() < 0.7:
            return by_words.put_at(paper, way, resized(draw, part, helper.looks(many)))
        if part in looks:
            return by_words.put_at(paper, way, draw.choice(helper.looks(many)))
        if part in orders and len(way) > 0:
            return by_words.put_at(paper, way, draw.choice(helper.orders(many)))
        if all(type(inner) is tuple and inner in orders for inner in part) and part:
            return by_words.put_at(paper, way, resized(draw, part, helper.orders(many)))
        if part and all(type(inner) is tuple and len(inner) in (1 + many, 2 + many) and
                        all(type(number) is int for number in inner) for inner in part):
            return by_words.put_at(paper, way, moved(draw, many, part))
        if part and all(type(inner) is int for inner in part) and len(part) < 7 and draw.random() < 0.5:
            return by_words.put_at(paper, way, tuple(sorted(set(part) ^ {draw.randint(0, 3)})))
        if part and all(type(inner) is tuple and inner[:1] in (("still",), ("round",)) for inner in part):
            at = draw.randrange(len(part))
            return by_words.put_at(paper, way, draw.choice((part[:at] + part[at + 1:], part[:at + 1] + part[at:],
                part[::-1])))
        if len(part) == 3 and part[0] in orders:
            return by_words.put_at(paper, way, draw.choice((
                (part[0], part[2], part[1]), part[1], part[2], (part[0], part, part[2]), (part[0], part[1], part[1]))))
    return paper


class Bent(unittest.TestCase):
    def test_changed_papers(self):
        draw = random.Random(951)
        found = set()
        for name in by_words.WORDS:
            for many, count in ((1, 120), (2, 4 if name == "full" else 40)):
                for _ in range(count):
                    claim = by_words.drawn_claim(draw, name, many)
                    verdict, _, paper = decide(claim, tries=5000)
                    for _ in range(8):
                        changed = worked_on(draw, many, paper)
                        if draw.random() < 0.4:
                            changed = worked_on(draw, many, changed)
                        certificate = (verdict, claim, changed)
                        due = by_words.first_fault(certificate)
                        self.assertEqual(first_fault(certificate), due, certificate)
                        found.add((name, verdict, due and due[0]))
        # Nearly all faults that point 16 tells were met.
        for row in (("safe", "shown", "lacks"), ("safe", "shown", "open"), ("safe", "shown", "back"),
                    ("safe", "broken", "hop"),
                    ("once", "shown", "lacks"), ("once", "shown", "open"), ("once", "shown", "back"),
                    ("once", "broken", "hop"), ("once", "broken", "back"), ("between", "shown", "beyond"),
                    ("between", "broken", "within"), ("between", "broken", "hop"), ("calm", "shown", "still"),
                    ("calm", "shown", "round"), ("calm", "broken", "hop"), ("brings", "shown", "missing"),
                    ("brings", "broken", "less"), ("brings", "broken", "told"), ("none", "shown", "order"),
                    ("none", "shown", "leaf"), ("none", "broken", "may"), ("none", "broken", "round"),
                    ("full", "shown", "ring"), ("full", "broken", "there"), ("full", "broken", "lacks"),
                    ("mend", "shown", "cost"), ("mend", "shown", "many"), ("mend", "shown", "break"),
                    ("mend", "broken", "cost"), ("mend", "broken", "many"), ("mend", "broken", "break")):
            self.assertIn(row, found)
        for name in by_words.WORDS:
            for verdict in ("shown", "broken"):
                self.assertIn((name, verdict, None), found)
                self.assertIn((name, verdict, "paper"), found)

    def test_papers_bent_at_any_depth(self):
        draw = random.Random(952)
        for name in by_words.WORDS:
            for many, count in ((1, 60), (2, 2 if name == "full" else 20)):
                for _ in range(count):
                    certificate = decide(by_words.drawn_claim(draw, name, many), tries=5000)
                    for _ in range(6):
                        value = by_words.bent(draw, certificate)
                        if draw.random() < 0.3:
                            value = by_words.bent(draw, value)
                        self.assertEqual(first_fault(value), by_words.first_fault(value), value)

    def test_papers_of_other_claims(self):
        draw = random.Random(953)
        for many in (1, 2):
            certificates = [decide(by_words.drawn_claim(draw, name, many), tries=5000)
                            for name in by_words.WORDS for _ in range(6 if many == 1 or name != "full" else 1)]
            for _ in range(1500):
                verdict, claim, _ = draw.choice(certificates)
                value = (draw.choice(("shown", "broken")), claim, draw.choice(certificates)[2])
                self.assertEqual(first_fault(value), by_words.first_fault(value), value)

    def test_no_certificate_with_the_other_verdict(self):
        draw = random.Random(954)
        for name in by_words.WORDS:
            for many, count in ((1, 40), (2, 3 if name == "full" else 12)):
                some = [decide(by_words.drawn_claim(draw, name, many), tries=5000) for _ in range(count)]
                papers = [paper for _, _, paper in some]
                parts = [part for paper in papers[:8] for part in all_parts(paper)[:40]]
                for verdict, claim, paper in some:
                    other = "broken" if verdict == "shown" else "shown"
                    for tried in papers + draw.sample(parts, min(60, len(parts))):
                        for value in (tried, worked_on(draw, many, tried) if type(tried) is tuple else tried):
                            self.assertIsNotNone(first_fault((other, claim, value)))
                    if name == "mend" and claim[5] is not None:
                        self.assertIsNotNone(first_fault((other, claim, ("less", paper[0], paper[1:2]))))

    def test_right_papers_other_than_those_of_decide(self):
        draw = random.Random(955)
        for _ in range(100):
            many = draw.choice((1, 2))
            table = helper.drawn_table(draw, many, 5)
            verdict, claim, paper = decide(("safe", many, table))
            if verdict == "shown":
                # The wider set of a wider table will do, too, if it has no look back.
                wider = helper.closed(tuple(sorted(set(table) | {draw.choice(helper.looks(many))})))
                backs = [look for look in sorted(wider) if helper.back(look)]
                due = ("back", backs[0]) if backs else None
                self.assertEqual(first_fault(("shown", claim, tuple(sorted(wider)))), due)
            else:
                self.assertIsNone(first_fault(("broken", claim, paper[1:] + paper[:1])))
                self.assertIsNone(first_fault(("broken", claim, paper * 3)))
                great = tuple((node[0],) + tuple(number * 10 ** 30 for number in node[1:]) for node in paper)
                self.assertIsNone(first_fault(("broken", claim, great)))

    def test_in_due_time(self):
        start = time.monotonic()
        table = tuple(look for look in helper.looks(2) if look[2][2] < look[2][0])
        for claim in (("safe", 2, table), ("once", 2, table), ("between", 2, table, table), ("calm", 2, table, ()),
                      ("safe", 2, helper.looks(2)), ("full", 2, table)):
            self.assertIsNone(first_fault(decide(claim)))
        self.assertIsNone(first_fault(("shown", ("between", 2, helper.looks(2), helper.looks(2)), helper.looks(2))))
        self.assertLess(time.monotonic() - start, 20)

    def test_by_name(self):
        self.assertEqual(first_fault(certificate=()), ("form",))


if __name__ == "__main__":
    unittest.main()
