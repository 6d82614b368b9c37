"""Promises [1] and [15]: sums, seals and sealed zones."""

import copy
import random
import unittest

from namehouse.errors import BadLetter, BadRecord, BadZone
from namehouse.letters import row_of
from namehouse.lookup import handed_keepers
from namehouse.names import below, ordered_names
from namehouse.records import KINDS
from namehouse.seals import is_right, sealed, sum_of
from namehouse.zones import Zone
from tests.things import Agreeing, odd_things, same
from tests.test_telling import drawn_zone
from tests.zonethings import FIRM, KEEPER, TOP, at, firm, rec

A = at("a")
NO_KEYS = [None, True, False, 0, -1, 10 ** 12 + 1, 1.0, "1", "", [1], (1,), {}, Agreeing(), object()]
LONG = [rec("a", "text", str(k).rjust(30, "x")) for k in range(55)]


def reckoned(numbers, key):
    total = key
    for number in numbers:
        total = (total * 257 + number + 1) % 1000000007
    return total


class SumTest(unittest.TestCase):
    def test_by_numbers_reckoned_by_hand(self):
        # A name of one label; it is told short from the second time on.
        row = [0, 0, 1, 0, 1, 0, 0, 0, 1, 192, 4, 0, 0, 0, 0, 0, 0, 0, 0, 0, 0, 0, 0, 7, 0, 0]
        self.assertTrue(same(sum_of([rec("a", "addr", 7, 9)], 3), reckoned(row, 3)))
        row = [0, 0, 1, 0, 1, 1, 0, 1, 2, 192, 4, 1, 0, 0, 0, 0, 0, 192, 4, 1, 0, 0, 0, 0, 2, 65, 94, 0, 0]
        self.assertTrue(same(sum_of([rec("b", "text", "a~"), rec("b", "text", "")], 10 ** 12), reckoned(row, 10 ** 12)))
        # At () its name is one nought.
        row = [0, 0, 1, 0, 0, 5, 1, 0, 5, 0, 0, 0, 0, 0, 0, 0, 0, 0, 0, 1, 2, 0, 0]
        self.assertTrue(same(sum_of([rec("", "key", 258)], 1), reckoned(row, 1)))

    def test_the_very_numbers(self):
        self.assertEqual(sum_of([rec("", "key", 258)], 1), 246454608)
        self.assertEqual(sum_of([rec("a", "addr", 7)], 3), 673008834)

    def test_lives_and_order_arent_heeded(self):
        for records in ([rec("a", "addr", k) for k in (3, 1, 2)], [rec("a", "keeper", name) for name in ("x.b", "b", "a.c")],
                        [rec("a", "gap", (name, ())) for name in (("a", "z"), ("b", "y"), ("b",))]):
            wanted = sum_of(records, 5)
            draw = random.Random(1)
            for _ in range(10):
                others = [r[:2] + (draw.randrange(100),) + r[3:] for r in records]
                draw.shuffle(others)
                kept = copy.deepcopy(others)
                self.assertTrue(same(sum_of(others, 5), wanted))
                self.assertTrue(same(others, kept))

    def test_each_kind(self):
        data = {"addr": 1, "text": "x", "keeper": ("b",), "other": ("b",), "top": (1, 2), "key": 4, "trust": 4, "gap": (("b",), ("addr",))}
        sums = {sum_of([("c",) and (("c",), kind, 5, data[kind])], 9) for kind in data}
        self.assertEqual(len(sums), 8)
        for kind in data:
            row = row_of((0, "answer", ("c",), kind, "good", [(("c",), kind, 0, data[kind])], [], []))
            self.assertEqual(sum_of([(("c",), kind, 5, data[kind])], 9), reckoned(row, 9))

    def test_refused(self):
        one = rec("a", "addr", 1)
        seal = rec("a", "seal", ("addr", 1, 2))
        for thing in odd_things() + [[], (one,), one, [one, one], [one, rec("a", "addr", 1, 6)], [one, rec("b", "addr", 2)], [seal],
                                     [one, rec("a", "text", "x")], [one, seal], [list(one)], [one, None], {one: 1}, iter([one])]:
            for key in [3] + NO_KEYS:
                with self.assertRaises(BadRecord, msg=repr(thing)):
                    sum_of(thing, key)
        for key in NO_KEYS:
            with self.assertRaises(BadRecord, msg=repr(key)):
                sum_of([one], key)

    def test_a_set_without_a_row(self):
        with self.assertRaises(BadLetter):
            sum_of(LONG, 3)
        with self.assertRaises(BadLetter):
            sum_of([rec("a", "addr", k) for k in range(62)], 3)
        self.assertIsInstance(sum_of([rec("a", "addr", k) for k in range(61)], 3), int)
        for key in NO_KEYS:
            with self.assertRaises(BadRecord):
                sum_of(LONG, key)


class IsRightTest(unittest.TestCase):
    def setUp(self):
        self.records = [rec("a", "addr", 1, 9), rec("a", "addr", 2, 8)]
        self.sum = sum_of(self.records, 5)

    def seal(self, name="a", kind="addr", key=5, add=0, live=3):
        return rec(name, "seal", (kind, key, (self.sum + add) % 1000000007), live)

    def test_a_right_one(self):
        for live in (0, 3, 10 ** 6):
            self.assertIs(is_right(self.records, self.seal(live=live)), True)
            self.assertIs(is_right(self.records[::-1], self.seal(live=live)), True)
        self.assertIs(is_right([rec("a", "addr", 2), rec("a", "addr", 1)], self.seal()), True)

    def test_those_that_differ_by_one_thing(self):
        for seal in [self.seal("b"), self.seal(""), self.seal("a.a"), self.seal(kind="text"), self.seal(kind="gap"), self.seal(key=6),
                     self.seal(key=10 ** 12), self.seal(add=1), self.seal(add=-1)]:
            self.assertIs(is_right(self.records, seal), False, seal)
        for records in [self.records[:1], self.records[1:], self.records + [rec("a", "addr", 3)], [rec("a", "addr", 1), rec("a", "addr", 3)]]:
            self.assertIs(is_right(records, self.seal()), False, records)

    def test_of_another_name_or_kind_whatever_its_sum(self):
        for name, kind in [("b", "addr"), ("a", "text")]:
            seal = rec(name, "seal", (kind, 5, self.sum))
            self.assertIs(is_right(self.records, seal), False)
        texts = [rec("a", "text", "x")]
        self.assertIs(is_right(texts, rec("a", "seal", ("addr", 5, sum_of(texts, 5)))), False)
        self.assertIs(is_right(texts, rec("b", "seal", ("text", 5, sum_of(texts, 5)))), False)
        self.assertIs(is_right(texts, rec("a", "seal", ("text", 5, sum_of(texts, 5)))), True)

    def test_refused(self):
        one, seal = rec("a", "addr", 1), self.seal()
        for thing in odd_things() + [[], (one,), [one, one], [one, rec("a", "addr", 1, 6)], [one, rec("b", "addr", 2)], [seal],
                                     [one, rec("a", "text", "x")]]:
            with self.assertRaises(BadRecord, msg=repr(thing)):
                is_right(thing, seal)
        for thing in odd_things() + [one, [seal], list(seal), seal[:3], rec("a", "seal", ("seal", 1, 2)), rec("a", "seal", ("addr", 0, 2)),
                                     rec("a", "seal", ("addr", 1, 1000000007)), self.seal(live=-1), self.seal(live=True)]:
            for records in ([one], LONG, None):
                with self.assertRaises(BadRecord, msg=repr(thing)):
                    is_right(records, thing)
        for seal in (rec("a", "seal", ("text", 1, 2)), rec("b", "seal", ("addr", 1, 2))):
            with self.assertRaises(BadLetter):
                is_right(LONG, seal)


def slow_sealed(zone, keys):
    """The records of a sealed zone, name by name."""
    origin, live = zone.origin, [r[2] for r in zone.records() if r[1] == "top"][0]
    here = [r for r in zone.records() if r[1] not in ("seal", "gap") and not (r[0] == origin and r[1] == "key")]
    here += [(origin, "key", live, key) for key in keys]
    places = [r[0] for r in handed_keepers(here, origin)]
    names = ordered_names(list({r[0] for r in here if not any(r[0] != p and below(r[0], p) for p in places)}))
    for k, name in enumerate(names):
        kinds = {r[1] for r in here if r[0] == name} | {"gap", "seal"}
        here.append((name, "gap", live, ((names + [origin])[k + 1], tuple(sorted(kinds)))))
    for name in names:
        for kind in KINDS:
            found = [r for r in here if r[:2] == (name, kind)]
            if found and kind != "seal" and not (kind == "keeper" and name in places):
                here += [(name, "seal", found[0][2], (kind, key, sum_of(found, key))) for key in keys]
    return here


class SealedTest(unittest.TestCase):
    def gaps(self, zone):
        return [(r[0], r[2], r[3]) for r in zone.records() if r[1] == "gap"]

    def seals(self, zone):
        return [(r[0], r[3][0], r[3][1], r[2]) for r in zone.records() if r[1] == "seal"]

    def check(self, zone, keys):
        """The zone sealed is as the slow way tells; it stays as it was."""
        kept = zone.records(), list(keys)
        told = sealed(zone, keys)
        self.assertIsInstance(told, Zone)
        self.assertTrue(same(told.origin, zone.origin))
        self.assertTrue(same(told.records(), Zone(zone.origin, slow_sealed(zone, keys)).records()))
        self.assertTrue(same((zone.records(), keys), kept))
        return told

    def test_the_least_zone(self):
        zone = self.check(firm(), [5])
        kinds = ("gap", "keeper", "key", "seal", "top")
        gap, key = (FIRM, "gap", 60, (FIRM, kinds)), (FIRM, "key", 60, 5)
        wanted = [gap, KEEPER, key, TOP]
        wanted += [(FIRM, "seal", 60, (r[1], 5, sum_of([r], 5))) for r in wanted]
        self.assertTrue(same(zone.records(), Zone(FIRM, wanted).records()))

    def test_gaps_lead_from_name_to_name_and_the_last_to_the_origin(self):
        zone = self.check(firm(rec("b.firm", "addr", 1), rec("x.a.firm", "text", "x"), rec("*.firm", "addr", 2), rec("b.firm", "text", "y")), [5])
        self.assertEqual(self.gaps(zone), [
            (FIRM, 60, (at("*.firm"), ("gap", "keeper", "key", "seal", "top"))),
            (at("*.firm"), 60, (at("x.a.firm"), ("addr", "gap", "seal"))),
            (at("x.a.firm"), 60, (at("b.firm"), ("gap", "seal", "text"))),
            (at("b.firm"), 60, (FIRM, ("addr", "gap", "seal", "text")))])

    def test_a_seal_of_each_set_by_each_key_of_the_sets_live(self):
        zone = self.check(firm(rec("b.firm", "addr", 1, 7), rec("b.firm", "addr", 2, 7), rec("b.firm", "key", 9, 8), rec("o.firm", "other", "x", 3)),
                          [10 ** 12, 5])
        wanted = [(FIRM, kind, 60) for kind in ("gap", "keeper", "key", "top")]
        wanted += [(at("b.firm"), "addr", 7), (at("b.firm"), "gap", 60), (at("b.firm"), "key", 8), (at("o.firm"), "gap", 60), (at("o.firm"), "other", 3)]
        self.assertEqual(self.seals(zone), [(name, kind, key, live) for name, kind, live in wanted for key in (5, 10 ** 12)])
        for seal in [r for r in zone.records() if r[1] == "seal"]:
            self.assertIs(is_right([r for r in zone.records() if r[:2] == (seal[0], seal[3][0])], seal), True)

    def test_what_is_left_out_at_handed_on_names_and_below(self):
        zone = self.check(firm(rec("s.firm", "keeper", "ns.s.firm"), rec("s.firm", "trust", 3, 4), rec("ns.s.firm", "addr", 1),
                               rec("a.ns.firm", "addr", 1), rec("t.firm", "keeper", "ns.s.firm")), [5])
        self.assertEqual(self.gaps(zone)[1:], [
            (at("a.ns.firm"), 60, (at("s.firm"), ("addr", "gap", "seal"))),
            (at("s.firm"), 60, (at("t.firm"), ("gap", "keeper", "seal", "trust"))),
            (at("t.firm"), 60, (FIRM, ("gap", "keeper", "seal")))])
        self.assertEqual(self.seals(zone)[4:], [
            (at("a.ns.firm"), "addr", 5, 5), (at("a.ns.firm"), "gap", 5, 60),
            (at("s.firm"), "gap", 5, 60), (at("s.firm"), "trust", 5, 4), (at("t.firm"), "gap", 5, 60)])

    def test_what_it_had_of_keys_seals_and_gaps(self):
        stale = [rec("firm", "key", 77, 9), rec("firm", "seal", ("addr", 3, 4)), rec("a.firm", "gap", ((), ())), rec("b.firm", "seal", ("text", 1, 1)),
                 rec("b.firm", "text", "x"), rec("b.firm", "key", 78)]
        zone = self.check(firm(*stale), [5])
        self.assertEqual([r[0] for r in zone.records() if r[1] == "gap"], [FIRM, at("b.firm")])
        self.assertEqual([r for r in zone.records() if r[1] == "key"], [(FIRM, "key", 60, 5), rec("b.firm", "key", 78)])

    def test_sealed_anew(self):
        zone = firm(rec("b.firm", "addr", 1), rec("s.firm", "keeper", "x"))
        once = sealed(zone, [5, 6])
        self.assertTrue(same(sealed(once, [6, 5]).records(), once.records()))
        self.assertTrue(same(sealed(sealed(zone, [1, 2, 3]), [5, 6]).records(), once.records()))
        more = Zone(FIRM, [r for r in once.records() if r[0] != at("b.firm")] + [rec("c.firm", "text", "y")])
        self.assertTrue(same(sealed(more, [7]).records(), sealed(firm(rec("s.firm", "keeper", "x"), rec("c.firm", "text", "y")), [7]).records()))

    def test_at_the_root(self):
        zone = self.check(Zone((), [rec("", "top", (1, 2), 8), rec("", "keeper", "r"), rec("com", "keeper", "k.com"), rec("k.com", "addr", 3)]), [1, 9])
        self.assertEqual(self.gaps(zone), [((), 8, (at("com"), ("gap", "keeper", "key", "seal", "top"))), (at("com"), 8, ((), ("gap", "keeper", "seal")))])

    def test_sixty_records_and_one_more(self):
        # By one key 4 + 4 records stand at the origin, 4 for each name with an addr, 1 more for each addr more.
        for many, more, fits in [(13, 0, True), (12, 4, True), (12, 5, False), (13, 1, False), (14, 0, False)]:
            records = [rec(f"a{k}.firm", "addr", 1) for k in range(many)] + [rec("a0.firm", "addr", 2 + k) for k in range(more)]
            if fits:
                self.assertEqual(len(self.check(firm(*records), [5]).records()), 60)
            else:
                with self.assertRaises(BadZone):
                    sealed(firm(*records), [5])

    def test_a_set_without_a_row(self):
        texts = [rec("a.firm", "text", str(k).rjust(30, "x")) for k in range(56)]
        with self.assertRaises(BadZone):
            sealed(firm(*texts), [5])
        texts = [rec("a.firm", "text", str(k).rjust(30, "x")) for k in range(45)]
        self.check(firm(*texts), [5])

    def test_refused(self):
        full = firm(*[rec(f"a{k}.firm", "addr", 1) for k in range(30)])
        for thing in odd_things() + [[], (5,), {5: 1}, "5", 5, [5, 5], [1, 2, 3, 4, 5], [1, 2, 1], iter([5])] + [[key] for key in NO_KEYS] + [
                [5, key] for key in NO_KEYS]:
            for zone in (firm(), full):
                with self.assertRaises(BadRecord, msg=repr(thing)):
                    sealed(zone, thing)
        self.check(firm(), [1, 2, 3, 10 ** 12])

    def test_drawn_zones(self):
        draw = random.Random(15)
        many = 0
        for _ in range(150):
            zone, keys = drawn_zone(draw), draw.sample(range(1, 9), draw.choice([1, 1, 2]))
            try:
                Zone(zone.origin, slow_sealed(zone, keys))
            except BadZone:
                with self.assertRaises(BadZone):
                    sealed(zone, keys)
            else:
                self.check(zone, keys)
                many += 1
        self.assertGreater(many, 60)


if __name__ == "__main__":
    unittest.main()
