"""Promises [1] and [16]: steps of zones, and that they show what a sealed zone tells."""

import itertools
import random
import unittest

from namehouse.errors import BadName, BadRecord, BadZone
from namehouse.lookup import handed_keepers
from namehouse.names import below
from namehouse.records import KINDS, ordered
from namehouse.seals import sealed
from namehouse.shown import shown, step_of
from namehouse.telling import told
from namehouse.zones import Zone
from tests.sealthings import chain, sealed_at
from tests.test_memory import NO_KINDS, NO_NAMES
from tests.test_telling import drawn_zone
from tests.things import same
from tests.zonethings import at, rec

ASKED_KINDS = [kind for kind in KINDS if kind not in ("seal", "gap")]


def wanted_of(zone, name, kind):
    """What steps of a sealed zone show, by what it tells."""
    outcome, answers, _, _ = told(zone, name, kind)
    if answers and answers[0][1] == "other" and kind != "other":
        return "other", answers[0][3]
    if outcome == "good":
        return "good", answers
    if outcome in ("empty", "lacking"):
        return (outcome,)
    return None


class StepCase(unittest.TestCase):
    def step(self, zone, name, kind, *sets):
        """The step is of these sets (name's text, kind), and of their seals."""
        kept = zone.records()
        pairs = [(at(text), word) for text, word in sets]
        wanted = [r for r in zone.records() if r[:2] in pairs or (r[1] == "seal" and (r[0], r[3][0]) in pairs)]
        for pair in pairs:
            self.assertIn(pair, [r[:2] for r in wanted], "a set that isn't there")
        origin, records = step_of(zone, at(name), kind)
        self.assertTrue(same(origin, zone.origin))
        self.assertTrue(same(records, wanted), (name, kind, records, wanted))
        self.assertTrue(same(records, ordered(records)))
        self.assertEqual(len(set(records)), len(records))
        self.assertIsInstance(step_of(zone, at(name), kind), tuple)
        records.clear()
        self.assertTrue(same(zone.records(), kept))


class StepOfTest(StepCase):
    def setUp(self):
        self.zone = sealed_at("firm", [3, 4], rec("b.firm", "addr", 1), rec("b.firm", "addr", 2), rec("b.firm", "text", "x"),
                              rec("o.firm", "other", "b.firm"), rec("x.y.firm", "addr", 9), rec("*.firm", "text", "y"))

    def test_a_set_and_the_gap_at_the_name(self):
        keys = ("firm", "key")
        self.step(self.zone, "b.firm", "addr", keys, ("b.firm", "addr"), ("b.firm", "gap"))
        self.step(self.zone, "b.firm", "text", keys, ("b.firm", "text"), ("b.firm", "gap"))
        self.step(self.zone, "b.firm", "key", keys, ("b.firm", "gap"))
        self.step(self.zone, "firm", "key", keys, ("firm", "gap"))
        self.step(self.zone, "firm", "top", keys, ("firm", "gap"), ("firm", "top"))
        self.step(self.zone, "firm", "keeper", keys, ("firm", "gap"), ("firm", "keeper"))
        self.step(self.zone, "*.firm", "text", keys, ("*.firm", "text"), ("*.firm", "gap"))

    def test_an_other(self):
        for kind in ASKED_KINDS:
            self.step(self.zone, "o.firm", kind, ("firm", "key"), ("o.firm", "other"), ("o.firm", "gap"))

    def test_a_name_there_through_those_below_it(self):
        for kind in ASKED_KINDS:
            self.step(self.zone, "y.firm", kind, ("firm", "key"), ("o.firm", "gap"))

    def test_names_that_arent_there(self):
        # The gap that spans it, and at the star a set and its gap.
        self.step(self.zone, "c.firm", "text", ("firm", "key"), ("b.firm", "gap"), ("*.firm", "text"), ("*.firm", "gap"))
        self.step(self.zone, "c.firm", "addr", ("firm", "key"), ("b.firm", "gap"), ("*.firm", "gap"))
        self.step(self.zone, "a.c.firm", "addr", ("firm", "key"), ("b.firm", "gap"), ("*.firm", "gap"))
        self.step(self.zone, "z.firm", "addr", ("firm", "key"), ("x.y.firm", "gap"), ("*.firm", "gap"))
        self.step(self.zone, "a.firm", "addr", ("firm", "key"), ("*.firm", "gap"))
        # The star isn't there either.
        self.step(self.zone, "a.b.firm", "text", ("firm", "key"), ("b.firm", "gap"))
        self.step(self.zone, "z.y.firm", "addr", ("firm", "key"), ("o.firm", "gap"), ("x.y.firm", "gap"))
        self.step(self.zone, "*.b.firm", "text", ("firm", "key"), ("b.firm", "gap"))

    def test_a_stars_other(self):
        zone = sealed_at("firm", [3], rec("*.firm", "other", "x"))
        for kind in ASKED_KINDS:
            self.step(zone, "a.firm", kind, ("firm", "key"), ("*.firm", "other"), ("*.firm", "gap"))

    def test_where_it_hands_on(self):
        zone = sealed_at("firm", [3], rec("s.firm", "keeper", "ns.s.firm"), rec("s.firm", "trust", 7), rec("s.firm", "trust", 8),
                         rec("ns.s.firm", "addr", 1), rec("t.firm", "keeper", "ns.s.firm"), rec("*.firm", "addr", 3))
        for kind in ASKED_KINDS:
            for name in ("s.firm", "www.s.firm", "ns.s.firm", "*.s.firm"):
                self.step(zone, name, kind, ("firm", "key"), ("s.firm", "gap"), ("s.firm", "trust"))
            for name in ("t.firm", "x.y.t.firm"):
                self.step(zone, name, kind, ("firm", "key"), ("t.firm", "gap"))
        self.step(zone, "ss.firm", "addr", ("firm", "key"), ("s.firm", "gap"), ("*.firm", "addr"), ("*.firm", "gap"))

    def test_a_name_that_isnt_below_the_origin(self):
        for name in ("", "com", "b", "firm.com", "*.com", "z", "x.y.z", "*.z"):
            for kind in ASKED_KINDS:
                self.step(self.zone, name, kind, ("firm", "key"))

    def test_a_zone_that_isnt_sealed(self):
        zone = Zone(at("firm"), [rec("firm", "top", (1, 2)), rec("firm", "keeper", "x"), rec("b.firm", "addr", 3), rec("b.firm", "seal", ("addr", 1, 2)),
                                 rec("b.firm", "seal", ("text", 1, 2)), rec("o.firm", "other", "x")])
        self.assertTrue(same(step_of(zone, at("b.firm"), "addr"), (at("firm"), [rec("b.firm", "addr", 3), rec("b.firm", "seal", ("addr", 1, 2))])))
        self.assertTrue(same(step_of(zone, at("c.firm"), "addr"), (at("firm"), [])))
        self.assertTrue(same(step_of(zone, at("com"), "addr"), (at("firm"), [])))

    def test_refused(self):
        for name in NO_NAMES:
            for kind in ("addr", "seal", None):
                with self.assertRaises(BadName, msg=repr(name)):
                    step_of(self.zone, name, kind)
        for kind in NO_KINDS + ["seal", "gap"]:
            for name in ((), at("b.firm")):
                with self.assertRaises(BadRecord, msg=repr(kind)):
                    step_of(self.zone, name, kind)


class ShowsTest(unittest.TestCase):
    """What steps of sealed zones show is what the last one tells; nothing is shown of what it hands on or refuses."""

    def check(self, trusted, zones, name, kind):
        wanted = wanted_of(zones[-1], name, kind)
        found = shown(trusted, chain(zones, name, kind), name, kind)
        self.assertTrue(same(found, wanted), (name, kind, found, wanted))
        self.seen[wanted and (wanted[0], len(zones))] = True

    def setUp(self):
        self.seen = {}

    def test_drawn_zones(self):
        draw = random.Random(16)
        labels = ["a", "b", "q"]
        names = [()] + [x for n in (1, 2, 3) for x in itertools.product(labels, repeat=n)] + [at(n) for n in ("*", "*.a", "*.q.b", "a.a.b.a")]
        many = 0
        while many < 40:
            try:
                zone = sealed(drawn_zone(draw), [3])
            except BadZone:
                continue
            many += 1
            ahead = [] if zone.origin == () else [sealed_at("", [5, 6], rec("a", "keeper", "x"), rec("a", "trust", 3), rec("a", "trust", 4))]
            for name in names:
                for kind in ("addr", "text", "trust", "other", "keeper", "key"):
                    self.check(6 if ahead else 3, ahead + [zone], name, kind)
        words = ("good", "other", "empty", "lacking")
        self.assertEqual(set(self.seen), {None} | {(word, many) for word in words for many in (1, 2)})

    def test_six_steps(self):
        origins = ["", "e", "d.e", "c.d.e", "b.c.d.e", "a.b.c.d.e"]
        zones = []
        for k, origin in enumerate(origins):
            under = [rec(origins[k + 1], "keeper", "x"), rec(origins[k + 1], "trust", k + 12)] if k < 5 else []
            here = [rec(label + origin, "addr", 4) for label in ["w" + "." * bool(origin), "*" + "." * bool(origin)][:1 + k // 3]]
            zones.append(sealed_at(origin, [k + 11], *(under + here)))
        for many in range(1, 7):
            origin = at(origins[many - 1])
            for label in ("w", "z", "-"):
                for kind in ASKED_KINDS:
                    self.check(11, zones[:many], (label,) + origin, kind)
                    self.check(11, zones[:many], origin, kind)
        wanted = {(word, many) for many in range(1, 7) for word in ("good", "empty")} | {("lacking", many) for many in (1, 2, 3)}
        self.assertEqual(set(self.seen) - {None}, wanted)

    def test_records_below_handed_on_names_and_at_them_are_never_shown(self):
        zone = sealed_at("", [3], rec("s", "keeper", "ns.s"), rec("s", "trust", 7), rec("ns.s", "addr", 1), rec("t", "keeper", "ns.s"))
        for name in ("s", "ns.s", "x.s", "a.ns.s", "t", "x.t"):
            for kind in ASKED_KINDS:
                self.check(3, [zone], at(name), kind)
                handed = name not in ("s", "t") or kind != "trust"
                self.assertEqual(shown(3, chain([zone], at(name), kind), at(name), kind) is None, handed)
        self.assertTrue(handed_keepers(zone.records(), ()) and below(at("x.s"), at("s")))


if __name__ == "__main__":
    unittest.main()
