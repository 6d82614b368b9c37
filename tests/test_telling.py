"""Promises [1] and [9]: what a zone tells, and the letter that answers an ask."""

import copy
import itertools
import random
import unittest

from namehouse.errors import BadLetter, BadName, BadRecord
from namehouse.letters import is_letter, letter_of, row_of
from namehouse.names import below
from namehouse.records import KINDS, ordered
from namehouse.telling import answer_of, told
from namehouse.zones import Zone
from tests.things import odd_things, same
from tests.zonethings import FIRM, KEEPER, TOP, at, firm, rec

NOTHING = ("refused", [], [], [])
LACKING = ("lacking", [], [TOP], [])
EMPTY = ("empty", [], [TOP], [])


def good(*records):
    return "good", list(records), [], []


class ToldCase(unittest.TestCase):
    def check(self, zone, name, kind, wanted):
        kept = zone.records()
        self.assertTrue(same(told(zone, at(name), kind), wanted), (name, kind, told(zone, at(name), kind), wanted))
        self.assertTrue(same(zone.records(), kept))
        self.check_answer(zone, at(name), kind, wanted)

    def check_answer(self, zone, name, kind, wanted):
        """The letter that answers tells the same."""
        ask = (513, "ask", name, kind, "good", [], [], [])
        answer = answer_of(zone, ask)
        self.assertTrue(same(answer, (513, "answer", name, kind) + wanted), answer)
        self.assertTrue(same(letter_of(row_of(answer)), answer))
        self.assertEqual(ask, (513, "ask", name, kind, "good", [], [], []))


class ThereTest(ToldCase):
    def setUp(self):
        self.zone = firm(rec("www.firm", "addr", 10), rec("www.firm", "addr", 9), rec("www.firm", "text", "x", 6),
                         rec("a.b.firm", "addr", 1), rec("www.firm", "seal", ("addr", 1, 2)),
                         rec("b.firm", "gap", ((), ("addr",))), rec("firm", "key", 4))

    def test_not_below_the_origin(self):
        for name in ["", "com", "www.com", "www", "firma", "*", "firm.com"]:
            for kind in KINDS:
                self.check(self.zone, name, kind, NOTHING)
        deep = Zone(at("www.firm"), [rec("www.firm", "top", (1, 1)), rec("www.firm", "keeper", "")])
        self.check(deep, "firm", "top", NOTHING)
        self.check(deep, "www.firm", "top", good(rec("www.firm", "top", (1, 1))))

    def test_good(self):
        self.check(self.zone, "www.firm", "addr", good(rec("www.firm", "addr", 9), rec("www.firm", "addr", 10)))
        self.check(self.zone, "www.firm", "text", good(rec("www.firm", "text", "x", 6)))
        self.check(self.zone, "www.firm", "seal", good(rec("www.firm", "seal", ("addr", 1, 2))))
        self.check(self.zone, "b.firm", "gap", good(rec("b.firm", "gap", ((), ("addr",)))))
        self.check(self.zone, "a.b.firm", "addr", good(rec("a.b.firm", "addr", 1)))

    def test_at_the_origin(self):
        self.check(self.zone, "firm", "top", good(TOP))
        self.check(self.zone, "firm", "keeper", good(KEEPER))
        self.check(self.zone, "firm", "key", good(rec("firm", "key", 4)))
        for kind in ("addr", "text", "other", "trust", "seal", "gap"):
            self.check(self.zone, "firm", kind, EMPTY)

    def test_empty(self):
        for kind in KINDS:
            if kind not in ("addr", "text", "seal"):
                self.check(self.zone, "www.firm", kind, EMPTY)
            if kind not in ("addr",):
                self.check(self.zone, "a.b.firm", kind, EMPTY)

    def test_names_there_through_those_below_them_alone(self):
        zone = firm(rec("x.y.firm", "addr", 1), rec("*.firm", "addr", 2), rec("*.z.firm", "addr", 3))
        for kind in KINDS:
            self.check(zone, "y.firm", kind, EMPTY)
            self.check(zone, "z.firm", kind, EMPTY)

    def test_lacking(self):
        for name in ["web.firm", "a.www.firm", "x.a.b.firm", "x.b.firm", "*.firm", "*.www.firm", "b.www.firm", "firm.firm"]:
            for kind in KINDS:
                self.check(self.zone, name, kind, LACKING)


class HandedTest(ToldCase):
    def setUp(self):
        self.zone = firm(
            rec("s.firm", "keeper", "ns.s.firm"), rec("s.firm", "keeper", "b.firm"), rec("s.firm", "keeper", "x.com"),
            rec("s.firm", "keeper", "ns.t.firm"), rec("ns.s.firm", "addr", 12), rec("ns.s.firm", "addr", 3),
            rec("b.firm", "addr", 5, 9), rec("b.firm", "text", "x"), rec("t.firm", "keeper", "ns.t.firm"),
            rec("t.firm", "trust", 7), rec("ns.t.firm", "addr", 4), rec("t.firm", "keeper", "www.firm"),
            rec("ns.firm", "addr", 1), rec("*.firm", "text", "star"), rec("a.firm", "addr", 6),
            rec("u.firm", "keeper", "n.u.firm"), rec("s.firm", "gap", ((), ("keeper",))))
        self.s = ("handed", [], [rec("s.firm", "keeper", "x.com"), rec("s.firm", "keeper", "b.firm"),
                                 rec("s.firm", "keeper", "ns.s.firm"), rec("s.firm", "keeper", "ns.t.firm")],
                  [rec("b.firm", "addr", 5, 9), rec("ns.s.firm", "addr", 3), rec("ns.s.firm", "addr", 12),
                   rec("ns.t.firm", "addr", 4)])
        self.t = ("handed", [], [rec("t.firm", "keeper", "ns.t.firm"), rec("t.firm", "keeper", "www.firm")],
                  [rec("ns.t.firm", "addr", 4)])
        self.u = ("handed", [], [rec("u.firm", "keeper", "n.u.firm")], [])

    def test_at_it(self):
        for kind in KINDS:
            if kind != "trust":
                self.check(self.zone, "s.firm", kind, self.s)
                self.check(self.zone, "t.firm", kind, self.t)
                self.check(self.zone, "u.firm", kind, self.u)

    def test_trust_at_it(self):
        self.check(self.zone, "t.firm", "trust", good(rec("t.firm", "trust", 7)))
        self.check(self.zone, "s.firm", "trust", EMPTY)
        self.check(self.zone, "u.firm", "trust", EMPTY)

    def test_below_it(self):
        for kind in KINDS:
            for name in ["www.s.firm", "ns.s.firm", "a.b.c.s.firm", "*.s.firm"]:
                self.check(self.zone, name, kind, self.s)
            self.check(self.zone, "ns.t.firm", kind, self.t)
            self.check(self.zone, "n.u.firm", kind, self.u)

    def test_not_below_it(self):
        self.check(self.zone, "xs.firm", "text", good(rec("xs.firm", "text", "star")))
        self.check(self.zone, "b.firm", "addr", good(rec("b.firm", "addr", 5, 9)))


class OtherTest(ToldCase):
    def test_followed(self):
        zone = firm(rec("a.firm", "other", "www.firm"), rec("www.firm", "addr", 2), rec("www.firm", "addr", 1))
        self.check(zone, "a.firm", "addr", good(rec("a.firm", "other", "www.firm"), rec("www.firm", "addr", 1),
                                                rec("www.firm", "addr", 2)))

    def test_the_other_itself_is_asked(self):
        zone = firm(rec("a.firm", "other", "b.firm"), rec("b.firm", "other", "c.firm"))
        self.check(zone, "a.firm", "other", good(rec("a.firm", "other", "b.firm")))
        self.check(zone, "b.firm", "other", good(rec("b.firm", "other", "c.firm")))

    def test_seals_and_gaps_beside_it(self):
        seal, gap = rec("a.firm", "seal", ("other", 1, 2)), rec("a.firm", "gap", ((), ("other",)))
        zone = firm(rec("a.firm", "other", "b.firm"), seal, gap, rec("b.firm", "seal", ("addr", 1, 2)))
        self.check(zone, "a.firm", "seal", good(seal))
        self.check(zone, "a.firm", "gap", good(gap))
        bare = firm(rec("a.firm", "other", "b.firm"), rec("b.firm", "seal", ("addr", 1, 2)))
        self.check(bare, "a.firm", "seal", good(rec("a.firm", "other", "b.firm"), rec("b.firm", "seal", ("addr", 1, 2))))

    def test_several_in_a_row(self):
        others = [rec("a.firm", "other", "b.firm"), rec("b.firm", "other", "x.c.firm"), rec("x.c.firm", "other", "firm")]
        zone = firm(*others)
        self.check(zone, "a.firm", "top", good(*others, TOP))
        self.check(zone, "a.firm", "text", ("empty", others, [TOP], []))
        self.check(zone, "x.c.firm", "keeper", good(others[2], KEEPER))

    def test_fifty_in_a_row(self):
        others = [rec(f"{k}.firm", "other", f"{k + 1}.firm") for k in range(50)]
        zone = firm(*others, rec("50.firm", "addr", 7))
        self.check(zone, "0.firm", "addr", good(*others, rec("50.firm", "addr", 7)))
        self.check(zone, "0.firm", "text", ("empty", others, [TOP], []))

    def test_to_what_isnt_there(self):
        other = rec("a.firm", "other", "q.firm")
        self.check(firm(other), "a.firm", "addr", ("lacking", [other], [TOP], []))

    def test_to_a_name_there_through_those_below_it(self):
        other = rec("a.firm", "other", "c.firm")
        self.check(firm(other, rec("b.c.firm", "addr", 1)), "a.firm", "addr", ("empty", [other], [TOP], []))

    def test_to_a_star(self):
        other = rec("a.firm", "other", "q.firm")
        zone = firm(other, rec("*.firm", "addr", 1))
        self.check(zone, "a.firm", "addr", good(other, rec("q.firm", "addr", 1)))
        self.check(zone, "a.firm", "text", ("empty", [other], [TOP], []))

    def test_to_a_handed_on_name(self):
        other, under = rec("a.firm", "other", "s.firm"), rec("b.firm", "other", "www.s.firm")
        keeper, trust, addr = rec("s.firm", "keeper", "ns.s.firm"), rec("s.firm", "trust", 3), rec("ns.s.firm", "addr", 1)
        zone = firm(other, under, keeper, trust, addr)
        for kind in KINDS:
            if kind == "other":
                self.check(zone, "a.firm", kind, good(other))
                self.check(zone, "b.firm", kind, good(under))
            else:
                self.check(zone, "b.firm", kind, ("handed", [under], [keeper], [addr]))
                found = good(other, trust) if kind == "trust" else ("handed", [other], [keeper], [addr])
                self.check(zone, "a.firm", kind, found)

    def test_out_of_the_zone(self):
        zone = firm(rec("a.firm", "other", "www.com"), rec("b.firm", "other", "a.firm"), rec("c.firm", "other", ""))
        self.check(zone, "a.firm", "addr", good(rec("a.firm", "other", "www.com")))
        self.check(zone, "b.firm", "addr", good(rec("b.firm", "other", "a.firm"), rec("a.firm", "other", "www.com")))
        self.check(zone, "c.firm", "addr", good(rec("c.firm", "other", "")))

    def test_in_a_ring(self):
        own = rec("o.firm", "other", "o.firm")
        self.check(firm(own), "o.firm", "addr", good(own))
        ring = [rec("a.firm", "other", "b.firm"), rec("b.firm", "other", "c.firm"), rec("c.firm", "other", "a.firm")]
        zone = firm(*ring, rec("d.firm", "other", "b.firm"))
        self.check(zone, "a.firm", "addr", good(*ring))
        self.check(zone, "b.firm", "addr", good(ring[1], ring[2], ring[0]))
        self.check(zone, "d.firm", "addr", good(rec("d.firm", "other", "b.firm"), ring[1], ring[2], ring[0]))

    def test_in_a_ring_through_a_star(self):
        star = rec("*.firm", "other", "q.firm")
        self.check(firm(star), "q.firm", "addr", good(rec("q.firm", "other", "q.firm")))
        self.check(firm(star), "a.firm", "addr", good(rec("a.firm", "other", "q.firm"), rec("q.firm", "other", "q.firm")))
        self.check(firm(star), "*.firm", "addr", good(star, rec("q.firm", "other", "q.firm")))
        zone = firm(star, rec("q.firm", "other", "a.firm"))
        self.check(zone, "a.firm", "addr", good(rec("a.firm", "other", "q.firm"), rec("q.firm", "other", "a.firm")))
        self.check(zone, "b.firm", "addr", good(rec("b.firm", "other", "q.firm"), rec("q.firm", "other", "a.firm"),
                                                rec("a.firm", "other", "q.firm")))


class StarTest(ToldCase):
    def setUp(self):
        self.zone = firm(rec("*.firm", "addr", 2), rec("*.firm", "addr", 1), rec("*.firm", "seal", ("addr", 1, 2)),
                         rec("www.firm", "text", "x"), rec("x.y.firm", "addr", 3), rec("*.z.firm", "text", "deep"))

    def test_its_records_are_told_as_those_of_the_name(self):
        for name in ["q.firm", "q.r.firm", "a.b.c.d.e.firm", "*.firm", "*.q.firm", "www.q.firm"]:
            self.check(self.zone, name, "addr", good(rec(name, "addr", 1), rec(name, "addr", 2)))
            self.check(self.zone, name, "seal", good(rec(name, "seal", ("addr", 1, 2))))
            self.check(self.zone, name, "text", EMPTY)

    def test_it_is_no_help_to_names_there(self):
        for name in ["firm", "www.firm", "y.firm", "z.firm"]:
            self.check(self.zone, name, "addr", EMPTY)

    def test_only_that_ahead_of_the_nearest_name_above(self):
        self.check(self.zone, "a.www.firm", "addr", LACKING)
        self.check(self.zone, "a.y.firm", "addr", LACKING)
        self.check(self.zone, "a.x.y.firm", "addr", LACKING)
        self.check(self.zone, "a.z.firm", "addr", EMPTY)
        self.check(self.zone, "a.z.firm", "text", good(rec("a.z.firm", "text", "deep")))
        self.check(self.zone, "a.b.z.firm", "text", good(rec("a.b.z.firm", "text", "deep")))

    def test_its_other(self):
        zone = firm(rec("*.firm", "other", "www.firm"), rec("www.firm", "addr", 1))
        self.check(zone, "q.firm", "addr", good(rec("q.firm", "other", "www.firm"), rec("www.firm", "addr", 1)))
        self.check(zone, "q.firm", "text", ("empty", [rec("q.firm", "other", "www.firm")], [TOP], []))
        self.check(zone, "q.firm", "other", good(rec("q.firm", "other", "www.firm")))

    def test_names_on_the_way_through_other_names(self):
        zone = firm(rec("*.firm", "other", "x.z.firm"), rec("*.z.firm", "other", "y.z.firm"))
        self.check(zone, "q.firm", "addr", good(rec("q.firm", "other", "x.z.firm"), rec("x.z.firm", "other", "y.z.firm"),
                                                rec("y.z.firm", "other", "y.z.firm")))

    def test_at_the_root(self):
        top = rec("", "top", (1, 2))
        zone = Zone((), [top, rec("", "keeper", "ns"), rec("*", "addr", 1)])
        self.check(zone, "a.b.c.d.e.f", "addr", good(rec("a.b.c.d.e.f", "addr", 1)))
        self.check(zone, "com", "text", ("empty", [], [top], []))
        bare = Zone((), [top, rec("", "keeper", "ns"), rec("a.com", "addr", 1)])
        self.check(bare, "net", "addr", ("lacking", [], [top], []))
        self.check(bare, "com", "addr", ("empty", [], [top], []))

    def test_the_lists_are_the_askers_own(self):
        names = [("q.firm", "addr"), ("www.firm", "text"), ("www.firm", "key"), ("a.www.firm", "key"), ("x.com", "addr")]
        for name, kind in names:
            first = told(self.zone, at(name), kind)
            kept = copy.deepcopy(first)
            for part in told(self.zone, at(name), kind)[1:]:
                part.append("x")
                part.reverse()
            self.assertTrue(same(first, kept))
            self.assertTrue(same(told(self.zone, at(name), kind), kept))


def slow_told(zone, name, kind):
    """The same, by a walk that keeps no more than what was said so far."""
    origin, records, said, asked = zone.origin, zone.records(), [], []
    while True:
        if not below(name, origin):
            return ("good", said, [], []) if said else NOTHING
        if name in asked:
            return "good", said, [], []
        asked.append(name)
        handing = [r for r in records if r[1] == "keeper" and r[0] != origin and below(name, r[0])]
        if handing and not (handing[0][0] == name and kind == "trust"):
            addrs = [r for r in records if r[1] == "addr" and any(r[0] == keeper[3] for keeper in handing)]
            return "handed", said, handing, addrs
        there = [name[k:] for k in range(len(name) + 1) if any(below(r[0], name[k:]) for r in records)]
        place = name if there[0] == name else ("*",) + there[0]
        here = [(name,) + r[1:] for r in records if r[0] == place]
        tops = [r for r in records if r[1] == "top"]
        if not here and there[0] != name:
            return "lacking", said, tops, []
        if any(r[1] == kind for r in here):
            return "good", said + [r for r in here if r[1] == kind], [], []
        if not any(r[1] == "other" for r in here):
            return "empty", said, tops, []
        said = said + [r for r in here if r[1] == "other"]
        name = said[-1][3]


def drawn_zone(draw):
    names = ["", "a", "b", "*", "a.a", "b.a", "*.a", "a.b", "*.b", "a.b.a", "*.a.b"]
    starless = [name for name in names if "*" not in name] + ["q", "q.a", "q.b", "a.q.b"]
    origin = draw.choice(["", "", "a"])
    records = [rec(origin, "top", (draw.randrange(9), 3)), rec(origin, "keeper", "a")]
    if draw.randrange(3) == 0:
        records.append(rec("b.a", "keeper", "b.a"))
    for _ in range(draw.randrange(20)):
        kind = draw.choice(["addr", "text", "keeper", "other", "other", "other", "trust", "seal"])
        data = {"addr": draw.randrange(3), "text": "x", "trust": 5, "seal": ("addr", 1, 2)}.get(kind, draw.choice(starless))
        try:
            records = Zone(at(origin), records + [rec(draw.choice(names), kind, data)]).records()
        except ValueError:
            pass
    return Zone(at(origin), records)


class DrawnTest(ToldCase):
    def test_drawn_zones(self):
        draw = random.Random(9)
        labels = ["a", "b", "q"]
        names = [""] + [".".join(x) for n in (1, 2, 3) for x in itertools.product(labels, repeat=n)] + ["*", "*.a", "*.q.b"]
        outcomes = {}
        for _ in range(100):
            zone = drawn_zone(draw)
            for name in names:
                for kind in ("addr", "text", "trust", "other"):
                    wanted = slow_told(zone, at(name), kind)
                    self.assertTrue(same(told(zone, at(name), kind), wanted), (zone.records(), name, kind, wanted))
                    outcomes[wanted[0], len(wanted[1]) > 0] = True
        # Each outcome comes, behind others and behind none; but good behind none has records, too.
        self.assertEqual(sorted(outcomes), [
            ("empty", False), ("empty", True), ("good", True), ("handed", False), ("handed", True),
            ("lacking", False), ("lacking", True), ("refused", False)])


class RefusalTest(unittest.TestCase):
    def setUp(self):
        self.zone = firm(rec("www.firm", "addr", 1))

    def test_what_is_no_name(self):
        for thing in odd_things() + ["www.firm.", "", ["www", "firm"], ("a", "*"), ("a",) * 7, ("WWW", "firm")]:
            for kind in ("addr", "adr", None):
                with self.assertRaises(BadName, msg=repr(thing)):
                    told(self.zone, thing, kind)

    def test_what_is_no_kind(self):
        for thing in odd_things() + ["", "adr", "ADDR", "addr ", "good", ("addr",), ["addr"]]:
            for name in (at("www.firm"), at("com"), ()):
                with self.assertRaises(BadRecord, msg=repr(thing)):
                    told(self.zone, name, thing)

    def test_what_is_no_ask(self):
        ask = (1, "ask", at("www.firm"), "addr", "good", [], [], [])
        answer = answer_of(self.zone, ask)
        for thing in odd_things() + [answer, (1, "answer") + ask[2:], list(ask), ask[:7], ask + ([],), (True,) + ask[1:],
                                     (65536,) + ask[1:], (-1,) + ask[1:], (1, "asks") + ask[2:], row_of(ask), (), [], "",
                                     (1, "ask", "www.firm.") + ask[3:], (1, "ask", at("www.firm"), "adr") + ask[4:],
                                     ask[:4] + ("empty", [], [], []), ask[:5] + ([rec("www.firm", "addr", 1)], [], []),
                                     ask[:5] + ((), [], [])]:
            with self.assertRaises(BadLetter, msg=repr(thing)):
                answer_of(self.zone, thing)


class AnswerTest(unittest.TestCase):
    def test_number_name_and_kind_are_the_asks(self):
        zone = firm(rec("www.firm", "addr", 1))
        for number in (0, 1, 256, 65535):
            for name, kind in (("www.firm", "addr"), ("www.firm", "key"), ("x.firm", "text"), ("com", "addr"), ("firm", "top")):
                answer = answer_of(zone, (number, "ask", at(name), kind, "good", [], [], []))
                self.assertTrue(same(answer, (number, "answer", at(name), kind) + told(zone, at(name), kind)))
                self.assertTrue(is_letter(answer))

    def test_refused_where_the_letter_has_no_row(self):
        texts = [rec("www.firm", "text", str(k).rjust(30)) for k in range(58)]
        wanted = (9, "answer", at("www.firm"), "text", "refused", [], [], [])
        ask = (9, "ask", at("www.firm"), "text", "good", [], [], [])
        self.assertTrue(same(answer_of(firm(*texts), ask), wanted))
        self.assertTrue(same(told(firm(*texts), at("www.firm"), "text"), good(*texts)))

    def test_the_longest_row(self):
        # A text takes 8 numbers and its signs, its name told short.
        ask = (9, "ask", at("www.firm"), "text", "good", [], [], [])
        head = len(row_of(ask))
        many = (2000 - head) // 38 - 1
        left = 2000 - head - 38 * many - 16
        fits = [rec("www.firm", "text", str(k).rjust(30, "a")) for k in range(many)]
        fits += [rec("www.firm", "text", "b" * 14), rec("www.firm", "text", "c" * (left - 14))]
        answer = answer_of(firm(*fits), ask)
        self.assertEqual((answer[4], len(row_of(answer))), ("good", 2000))
        longer = fits[:-1] + [rec("www.firm", "text", "c" * (left - 13))]
        self.assertTrue(same(answer_of(firm(*longer), ask), ask[:1] + ("answer",) + ask[2:4] + ("refused", [], [], [])))


if __name__ == "__main__":
    unittest.main()
