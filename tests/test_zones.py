"""Promises [1] and [7]: zones."""

import copy
import unittest

from namehouse.errors import BadName, BadZone, HouseError
from namehouse.records import KINDS, ordered
from namehouse.zones import Zone
from tests.things import Agreeing, odd_things, same
from tests.zonethings import FIRM, KEEPER, TOP, at, firm, rec

A_DATA = {"addr": 7, "text": "x", "keeper": "ns.firm", "other": "www.firm", "top": (1, 2), "key": 3, "trust": 4,
          "seal": ("addr", 5, 6), "gap": (("z",), ("addr",))}
B_DATA = {"addr": 8, "text": "y", "keeper": "ns2.firm", "other": "web.firm", "top": (2, 2), "key": 4, "trust": 5,
          "seal": ("addr", 6, 6), "gap": (("z",), ("text",))}


class ZoneCase(unittest.TestCase):
    def good(self, *records, origin=FIRM):
        """A zone comes of a top, a keeper and these, whatever order they stand in."""
        ahead = [(origin, "top", 60, (7, 20)), (origin, "keeper", 60, ("ns", "firm"))]
        self.whole(origin, ahead + list(records))

    def whole(self, origin, records):
        kept = copy.deepcopy(records)
        for row in (records, records[::-1]):
            zone = Zone(origin, row)
            self.assertTrue(same(zone.origin, origin))
            self.assertTrue(same(zone.records(), ordered(kept)))
        self.assertTrue(same(records, kept))

    def bad(self, *records, origin=FIRM):
        """None comes of a top, a keeper and these."""
        ahead = [(origin, "top", 60, (7, 20)), (origin, "keeper", 60, ("ns", "firm"))]
        self.refused(origin, ahead + list(records))

    def refused(self, origin, records):
        for row in (records, records[::-1]):
            with self.assertRaises(BadZone, msg=repr((origin, row))):
                Zone(origin, row)


class OriginTest(ZoneCase):
    def test_origins(self):
        for origin in [(), FIRM, at("a.b.c.d.e.f"), at("8-0")]:
            self.good(origin=origin)

    def test_what_is_no_origin(self):
        for origin in odd_things() + ["firm.", "", ["firm"], ("*",), ("*", "firm"), ("Firm",), ("a",) * 7, ("a", "*")]:
            with self.assertRaises(BadZone, msg=repr(origin)):
                Zone(origin, [TOP, KEEPER])

    def test_an_origin_with_a_star_has_no_zone_of_its_own_either(self):
        star = ("*", "firm")
        self.refused(star, [(star, "top", 60, (7, 20)), (star, "keeper", 60, ("ns", "firm"))])
        self.refused(star, [TOP, KEEPER])

    def test_records_below_the_origin(self):
        self.good(rec("www.firm", "addr", 1), rec("a.b.c.d.e.firm", "addr", 1), rec("*.firm", "addr", 1),
                  rec("firm", "addr", 1), rec("firm.firm", "addr", 1))

    def test_records_elsewhere(self):
        for name in ["", "com", "firma", "xfirm", "fir", "firm.com", "www.com", "*"]:
            self.bad(rec(name, "addr", 1))
            self.bad(rec(name, "seal", ("addr", 1, 2)))
        self.bad(rec("firm", "addr", 1), origin=("www", "firm"))
        self.bad(rec("web.firm", "addr", 1), origin=("www", "firm"))
        self.good(rec("firm", "addr", 1), origin=())


class HeadTest(ZoneCase):
    def test_no_top_two_tops_a_top_elsewhere(self):
        self.refused(FIRM, [KEEPER])
        self.refused(FIRM, [])
        self.refused(FIRM, [TOP, KEEPER, (FIRM, "top", 60, (8, 20))])
        self.refused(FIRM, [TOP, KEEPER, (FIRM, "top", 60, (7, 21))])
        self.refused(FIRM, [TOP, KEEPER, rec("www.firm", "top", (7, 20))])
        self.refused(FIRM, [KEEPER, rec("www.firm", "top", (7, 20))])
        self.refused(FIRM, [KEEPER, rec("", "top", (7, 20))])

    def test_one_to_six_keepers(self):
        keepers = [rec("firm", "keeper", "ns" + str(k)) for k in range(7)]
        for many in range(1, 7):
            self.whole(FIRM, [TOP] + keepers[:many])
        self.refused(FIRM, [TOP])
        self.refused(FIRM, [TOP] + keepers)

    def test_keepers_of_handed_on_names_are_not_the_origins(self):
        self.refused(FIRM, [TOP, rec("www.firm", "keeper", "ns.firm")])
        self.good(*[rec("www.firm", "keeper", "ns" + str(k)) for k in range(9)])

    def test_sixty_records_and_one_more(self):
        addrs = [rec("www.firm", "addr", k) for k in range(59)]
        self.good(*addrs[:58])
        self.bad(*addrs)


class SetTest(ZoneCase):
    def test_no_two_of_one_name_kind_and_data(self):
        for kind in KINDS:
            if kind not in ("top", "other", "keeper"):
                self.bad(rec("www.firm", kind, A_DATA[kind]), rec("www.firm", kind, A_DATA[kind]))
                self.bad(rec("www.firm", kind, A_DATA[kind], 5), rec("www.firm", kind, A_DATA[kind], 6))
                self.good(rec("www.firm", kind, A_DATA[kind]), rec("www.firm", kind, B_DATA[kind]))
                self.good(rec("www.firm", kind, A_DATA[kind]), rec("web.firm", kind, A_DATA[kind]))
        self.bad(KEEPER)
        self.bad((FIRM, "keeper", 61, ("ns", "firm")))
        self.bad(rec("www.firm", "keeper", "a"), rec("www.firm", "keeper", "a"))
        self.good(rec("www.firm", "key", 1), rec("www.firm", "trust", 1), rec("www.firm", "addr", 1))

    def test_one_live_of_one_name_and_kind(self):
        for kind in KINDS:
            if kind not in ("top", "other", "seal"):
                self.bad(rec("www.firm", kind, A_DATA[kind], 5), rec("www.firm", kind, B_DATA[kind], 6))
                self.good(rec("www.firm", kind, A_DATA[kind], 5), rec("www.firm", kind, B_DATA[kind], 5))
                self.good(rec("www.firm", kind, A_DATA[kind], 5), rec("web.firm", kind, B_DATA[kind], 6))
        self.bad((FIRM, "keeper", 61, ("b",)))
        self.good(rec("www.firm", "addr", 1, 5), rec("www.firm", "text", "x", 6), rec("firm", "addr", 1, 0))
        self.bad(*[rec("www.firm", "addr", k, 5) for k in range(5)], rec("www.firm", "addr", 9, 4))

    def test_seals_of_unlike_lives(self):
        self.good(rec("www.firm", "seal", ("addr", 1, 2), 5), rec("www.firm", "seal", ("addr", 2, 2), 6),
                  rec("www.firm", "seal", ("text", 1, 2), 10 ** 6))
        self.bad(rec("www.firm", "seal", ("addr", 1, 2), 5), rec("www.firm", "seal", ("addr", 1, 2), 6))
        self.bad(rec("www.firm", "gap", ((), ("addr",)), 5), rec("www.firm", "gap", ((), ("text",)), 6))


class OtherTest(ZoneCase):
    def test_alone(self):
        self.good(rec("www.firm", "other", "web.firm"))
        self.good(rec("www.firm", "other", "www.firm"))
        self.good(rec("www.firm", "other", ""), rec("web.firm", "other", "x.com", 6))
        self.good(rec("*.firm", "other", "firm"), rec("a.www.firm", "addr", 1), rec("www.firm", "other", "firm"))

    def test_beside_another_kind(self):
        for kind in KINDS:
            if kind not in ("seal", "gap", "other"):
                self.bad(rec("www.firm", "other", "web.firm"), rec("www.firm", kind, A_DATA[kind]))
                self.bad(rec("www.firm", "other", "web.firm"), rec("www.firm", kind, A_DATA[kind]),
                         rec("www.firm", "seal", A_DATA["seal"]), rec("www.firm", "gap", A_DATA["gap"]))

    def test_beside_seals_and_gaps(self):
        for kind in ("seal", "gap"):
            self.good(rec("www.firm", "other", "web.firm"), rec("www.firm", kind, A_DATA[kind]))
            self.good(rec("www.firm", "other", "web.firm"), rec("www.firm", kind, A_DATA[kind], 9),
                      rec("www.firm", kind, B_DATA[kind], 9))

    def test_two_others(self):
        self.bad(rec("www.firm", "other", "a"), rec("www.firm", "other", "b"))
        self.bad(rec("www.firm", "other", "a"), rec("www.firm", "other", "b"), rec("www.firm", "seal", A_DATA["seal"]))

    def test_none_at_the_origin(self):
        self.bad(rec("firm", "other", "www.firm"))


class HandedOnTest(ZoneCase):
    def test_what_stands_at_a_handed_on_name(self):
        for kind in KINDS:
            records = [rec("s.firm", "keeper", "a.com"), rec("s.firm", kind, A_DATA[kind])]
            if kind in ("keeper", "trust", "seal", "gap"):
                self.good(*records)
            else:
                self.bad(*records)
        self.good(rec("s.firm", "keeper", "a"), rec("s.firm", "keeper", "b"), rec("s.firm", "trust", 1, 2),
                  rec("s.firm", "trust", 2, 2), rec("s.firm", "seal", A_DATA["seal"]), rec("s.firm", "gap", A_DATA["gap"]))

    def test_what_stands_below_it(self):
        told = rec("s.firm", "keeper", "ns.s.firm")
        for kind in KINDS:
            if kind == "addr":
                self.good(told, rec("ns.s.firm", kind, A_DATA[kind]))
            else:
                self.bad(told, rec("ns.s.firm", kind, A_DATA[kind]))
                self.bad(told, rec("ns.s.firm", "addr", 1), rec("ns.s.firm", kind, A_DATA[kind]))
        self.good(told, rec("ns.s.firm", "addr", 1), rec("ns.s.firm", "addr", 2))
        self.good(rec("s.firm", "keeper", "b.a.s.firm"), rec("b.a.s.firm", "addr", 1))

    def test_a_handed_on_name_below_another_one(self):
        self.bad(rec("s.firm", "keeper", "a.s.firm"), rec("a.s.firm", "keeper", "a.s.firm"))
        self.bad(rec("s.firm", "keeper", "a"), rec("c.b.s.firm", "keeper", "a"))
        self.good(rec("s.firm", "keeper", "a"), rec("t.firm", "keeper", "a"))

    def test_addrs_below_it_that_no_keeper_tells(self):
        told = rec("s.firm", "keeper", "ns.s.firm")
        for name in ["www.s.firm", "a.ns.s.firm", "ns.t.s.firm", "*.s.firm"]:
            self.bad(told, rec(name, "addr", 1))
        self.bad(rec("s.firm", "keeper", "www.firm"), rec("ns.s.firm", "addr", 1))

    def test_addrs_that_a_keeper_of_another_handed_on_name_tells(self):
        self.good(rec("s.firm", "keeper", "a.com"), rec("t.firm", "keeper", "ns.s.firm"), rec("ns.s.firm", "addr", 1))
        self.good(rec("s.firm", "keeper", "ns.t.firm"), rec("t.firm", "keeper", "ns.s.firm"),
                  rec("ns.s.firm", "addr", 1), rec("ns.t.firm", "addr", 1))

    def test_addrs_that_a_keeper_of_the_origin_alone_tells(self):
        self.bad(rec("firm", "keeper", "ns.s.firm", 60), rec("s.firm", "keeper", "a.com"), rec("ns.s.firm", "addr", 1))

    def test_with_a_star(self):
        self.bad(rec("*.firm", "keeper", "a.com"))
        self.bad(rec("*.www.firm", "keeper", "a.com"))
        self.bad(rec("*.firm", "keeper", "a.com"), rec("*.firm", "trust", 1))

    def test_what_stands_elsewhere(self):
        told = rec("s.firm", "keeper", "ns.s.firm")
        for kind in KINDS:
            if kind not in ("top", "keeper"):
                self.good(told, rec("t.firm", kind, A_DATA[kind]))
                self.good(told, rec("s.t.firm", kind, A_DATA[kind]))
                self.good(told, rec("*.firm", kind, A_DATA[kind]))
                self.good(told, rec("xs.firm", kind, A_DATA[kind]))
        self.good(told, rec("firm", "trust", 1), rec("firm", "addr", 1), rec("firm", "text", "x"), rec("firm", "key", 1))

    def test_the_origin_isnt_handed_on(self):
        self.good(*[rec("firm", kind, A_DATA[kind]) for kind in ("addr", "text", "key", "trust", "seal", "gap")],
                  rec("www.firm", "text", "x"), rec("a.www.firm", "other", "x"))


class RefusalTest(ZoneCase):
    def test_what_is_no_list_of_records(self):
        good = [TOP, KEEPER]
        for thing in odd_things() + [tuple(good), {TOP: 1, KEEPER: 2}, set(good), iter(good), "records", Agreeing(), (), "",
                                     [TOP, KEEPER, None], [TOP, KEEPER, []], [TOP, KEEPER, list(TOP)], [good],
                                     [TOP, KEEPER, rec("www.firm", "addr", -1)], [TOP, KEEPER, Agreeing()],
                                     [TOP, KEEPER, rec("www.firm", "addr", True)], [TOP, KEEPER, rec("a.firm", "addr", 1, True)],
                                     [TOP, KEEPER, (["firm"], "addr", 1, 1)], [TOP, KEEPER, (FIRM, ["addr"], 1, 1)],
                                     [TOP, KEEPER, (FIRM, "addr", 1, [1])], [TOP[:3], KEEPER], [TOP, KEEPER + (1,)]]:
            with self.assertRaises(BadZone, msg=repr(thing)) as caught:
                Zone(FIRM, thing)
            self.assertIsInstance(caught.exception, HouseError)

    def test_both_wrong(self):
        for thing in odd_things():
            with self.assertRaises(BadZone):
                Zone(thing, thing)


class RecordsTest(unittest.TestCase):
    def test_in_order(self):
        records = [rec("b.firm", "addr", 2), rec("b.firm", "addr", 1), rec("a.firm", "text", "x"), rec("x.a.firm", "key", 1),
                   rec("a.firm", "addr", 10), rec("a.firm", "addr", 9), rec("firm", "addr", 1),
                   rec("b.firm", "gap", (("a", "z"), ())), rec("b.firm", "gap", (("b", "y"), ()))]
        self.assertTrue(same(firm(*records).records(), [
            rec("firm", "addr", 1), KEEPER, TOP, rec("a.firm", "addr", 9), rec("a.firm", "addr", 10),
            rec("a.firm", "text", "x"), rec("x.a.firm", "key", 1), rec("b.firm", "addr", 1), rec("b.firm", "addr", 2),
            rec("b.firm", "gap", (("b", "y"), ())), rec("b.firm", "gap", (("a", "z"), ()))]))

    def test_the_handed_list_is_let_be(self):
        records = [rec("www.firm", "addr", 2), TOP, rec("www.firm", "addr", 1), KEEPER]
        kept = list(records)
        zone = Zone(FIRM, records)
        self.assertTrue(same(records, kept))
        records.clear()
        self.assertTrue(same(zone.records(), ordered(kept)))
        self.assertTrue(zone.has(at("www.firm")))

    def test_a_told_list_is_the_askers_own(self):
        zone = firm(rec("www.firm", "addr", 2))
        first = zone.records()
        second = zone.records()
        self.assertIsNot(first, second)
        first.clear()
        second.append(rec("web.firm", "addr", 1))
        self.assertTrue(same(zone.records(), [KEEPER, TOP, rec("www.firm", "addr", 2)]))
        self.assertFalse(zone.has(at("web.firm")))
        self.assertTrue(zone.has(at("www.firm")))


class HasTest(unittest.TestCase):
    def setUp(self):
        self.zone = firm(rec("www.firm", "addr", 1), rec("a.b.c.firm", "text", "x"), rec("*.d.firm", "addr", 1),
                         rec("s.firm", "keeper", "ns.s.firm"), rec("ns.s.firm", "addr", 1))

    def test_names_there_and_above(self):
        for name in ["firm", "www.firm", "a.b.c.firm", "b.c.firm", "c.firm", "*.d.firm", "d.firm", "s.firm", "ns.s.firm"]:
            self.assertIs(self.zone.has(at(name)), True, name)

    def test_names_that_are_not(self):
        for name in ["x.www.firm", "x.a.b.c.firm", "x.b.c.firm", "b.firm", "a.firm", "ww.firm", "*.firm", "x.d.firm", "x.firm",
                     "*.www.firm", "*.c.firm", "a.s.firm", "firm.firm", "a.b.firm"]:
            self.assertIs(self.zone.has(at(name)), False, name)

    def test_names_that_are_not_below_the_origin(self):
        for name in ["", "com", "www.com", "www", "*", "firma"]:
            self.assertIs(self.zone.has(at(name)), False, name)
        deep = Zone(at("www.firm"), [rec("www.firm", "top", (1, 1)), rec("www.firm", "keeper", "")])
        self.assertIs(deep.has(FIRM), False)
        self.assertIs(deep.has(()), False)
        self.assertIs(deep.has(at("www.firm")), True)
        root = Zone((), [rec("", "top", (1, 1)), rec("", "keeper", "")])
        self.assertIs(root.has(()), True)
        self.assertIs(root.has(FIRM), False)

    def test_what_is_no_name(self):
        for thing in odd_things() + ["www.firm.", "", ["www", "firm"], ("a", "*"), ("a",) * 7, ("WWW", "firm")]:
            with self.assertRaises(BadName, msg=repr(thing)):
                self.zone.has(thing)


if __name__ == "__main__":
    unittest.main()
