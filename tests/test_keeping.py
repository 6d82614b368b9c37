"""Promises [1], [10] and [11]: changes, and what a keeper tells of its last five."""

import copy
import unittest

from namehouse.errors import BadChange
from namehouse.keeping import Keeper
from namehouse.records import KINDS, ordered
from namehouse.zones import Zone
from tests.things import Agreeing, odd_things, same
from tests.zonethings import FIRM, KEEPER, TOP, at, firm, rec

LAST = 2 ** 32 - 1
WWW = at("www.firm")
A1, A2, A3 = [rec("www.firm", "addr", k) for k in (1, 2, 3)]
GOOD_DATA = {"addr": [0, 2 ** 64 - 1], "text": ["", "x"], "keeper": [(), ("a",)], "other": [(), ("a",)],
             "top": [(0, 0), (LAST, 10 ** 6)], "key": [1, 10 ** 12], "trust": [1, 10 ** 12], "seal": [("addr", 1, 0)],
             "gap": [((), ()), (("*",), ("addr", "text"))]}
BAD_DATA = {"addr": [-1, 2 ** 64, True, "1"], "text": [1, "x" * 31], "keeper": [("*",), "a.", ["a"]],
            "other": [("*",), "a.", ["a"]], "top": [(LAST + 1, 0), (0, 10 ** 6 + 1), [0, 0], 0], "key": [0, 10 ** 12 + 1, True],
            "trust": [0, 10 ** 12 + 1, True], "seal": [("seal", 1, 0), ("addr", 0, 0), ["addr", 1, 0]],
            "gap": [((), []), ((), ("text", "addr")), ()]}


def version_of(zone):
    return [data[0] for name, kind, live, data in zone.records() if kind == "top"][0]


def zone_at(version, *records):
    """A zone at firm. of that version."""
    return Zone(FIRM, [(FIRM, "top", 60, (version, 20)), KEEPER] + list(records))


class KeeperCase(unittest.TestCase):
    def shown(self, keeper):
        """All that can be asked of a keeper."""
        version = keeper.version()
        sinces = [keeper.since((version - back) & LAST) for back in range(-1, 8)]
        zone = keeper.zone()
        self.assertEqual(version_of(zone), version)
        return version, zone.origin, zone.records(), sinces

    def done(self, keeper, wishes, takes, puts):
        """The change is done; nothing that is handed in is changed."""
        before = keeper.zone().records()
        first = keeper.version()
        kept = copy.deepcopy((wishes, takes, puts))
        self.assertIs(keeper.change(wishes, takes, puts), True)
        self.assertTrue(same((wishes, takes, puts), kept))
        last = (first + 1) % 2 ** 32
        wanted = [record if record[1] != "top" else record[:3] + ((last, record[3][1]),)
                  for record in before if record not in takes] + puts
        self.assertTrue(same(keeper.version(), last))
        self.assertTrue(same(keeper.zone().records(), ordered(wanted)))
        self.assertTrue(same(keeper.since(first), [(first, last, ordered(takes), ordered(puts))]))

    def undone(self, keeper, wishes, takes, puts):
        """A wish doesn't hold, and nothing is done."""
        before = self.shown(keeper)
        kept = copy.deepcopy((wishes, takes, puts))
        self.assertIs(keeper.change(wishes, takes, puts), False)
        self.assertTrue(same((wishes, takes, puts), kept))
        self.assertTrue(same(self.shown(keeper), before))

    def refused(self, keeper, wishes, takes, puts):
        before = self.shown(keeper)
        with self.assertRaises(BadChange, msg=repr((wishes, takes, puts))):
            keeper.change(wishes, takes, puts)
        self.assertTrue(same(self.shown(keeper), before))


class KeeperTest(KeeperCase):
    def test_version_and_zone(self):
        zone = firm(A2, A1)
        keeper = Keeper(zone)
        self.assertTrue(same(keeper.version(), 7))
        self.assertIsInstance(keeper.zone(), Zone)
        self.assertTrue(same(keeper.zone().origin, FIRM))
        self.assertTrue(same(keeper.zone().records(), zone.records()))
        self.assertTrue(same(Keeper(zone_at(0)).version(), 0))
        self.assertTrue(same(Keeper(zone_at(LAST)).version(), LAST))

    def test_zones_that_were_told_or_handed_in_stay(self):
        zone = firm(A1)
        keeper, second = Keeper(zone), Keeper(zone)
        told = keeper.zone()
        kept = zone.records()
        self.done(keeper, [], [A1], [A2])
        for one in (zone, told, second.zone()):
            self.assertTrue(same(one.records(), kept))
        self.assertEqual(second.version(), 7)


class TakesAndPutsTest(KeeperCase):
    def test_taken_and_put(self):
        keeper = Keeper(firm(A1, rec("a.firm", "text", "x")))
        self.done(keeper, [], [], [A3, A2])
        self.done(keeper, [], [A3, A1], [])
        self.done(keeper, [], [A2], [rec("b.firm", "other", "a.firm"), rec("www.firm", "addr", 2, 9)])
        self.done(keeper, [], [rec("a.firm", "text", "x")], [rec("a.firm", "keeper", "ns.a.firm"), rec("ns.a.firm", "addr", 4)])
        self.assertTrue(same(keeper.zone().records(), [
            KEEPER, (FIRM, "top", 60, (11, 20)), rec("a.firm", "keeper", "ns.a.firm"), rec("ns.a.firm", "addr", 4),
            rec("b.firm", "other", "a.firm"), rec("www.firm", "addr", 2, 9)]))

    def test_nothing_taken_or_put(self):
        keeper = Keeper(firm(A1))
        self.done(keeper, [], [], [])
        self.done(keeper, [], [], [])
        self.assertEqual(keeper.version(), 9)

    def test_the_version_behind_the_last_one(self):
        keeper = Keeper(zone_at(LAST - 1))
        self.done(keeper, [], [], [A1])
        self.assertEqual(keeper.version(), LAST)
        self.done(keeper, [], [], [A2])
        self.assertTrue(same(keeper.version(), 0))
        self.done(keeper, [], [A1], [])
        self.assertEqual(keeper.version(), 1)
        self.assertTrue(same(keeper.since(LAST - 1), [(LAST - 1, LAST, [], [A1]), (LAST, 0, [], [A2]), (0, 1, [A1], [])]))

    def test_taken_and_put_again(self):
        keeper = Keeper(firm(A1))
        self.done(keeper, [], [A1], [A1])
        self.done(keeper, [], [A1], [A1, A2])
        self.assertEqual(keeper.version(), 9)

    def test_keepers_of_the_origin(self):
        keeper = Keeper(firm())
        other = (FIRM, "keeper", 60, ("b", "firm"))
        self.refused(keeper, [], [KEEPER], [])
        self.done(keeper, [], [KEEPER], [other])
        self.done(keeper, [], [], [KEEPER])
        self.done(keeper, [], [KEEPER], [])

    def test_a_taken_record_that_doesnt_stand(self):
        keeper = Keeper(firm(A1))
        for record in [A2, rec("www.firm", "addr", 1, 6), rec("web.firm", "addr", 1), rec("www.firm", "key", 1),
                       rec("com", "key", 1)]:
            self.refused(keeper, [], [record], [])
            self.refused(keeper, [], [A1, record], [])
            self.refused(keeper, [], [record], [record])
        self.done(keeper, [], [A1], [A2])
        self.refused(keeper, [], [A1], [])

    def test_a_put_record_that_stands(self):
        keeper = Keeper(firm(A1, A2))
        self.refused(keeper, [], [], [A1])
        self.refused(keeper, [], [A2], [A1])
        self.refused(keeper, [], [A2], [A3, A1])
        self.refused(keeper, [], [A1], [A1, A2])

    def test_no_zone_comes_of_it(self):
        keeper = Keeper(firm(A1, rec("s.firm", "keeper", "ns.s.firm"), rec("ns.s.firm", "addr", 1)))
        self.refused(keeper, [], [], [rec("www.firm", "addr", 2, 6)])
        self.refused(keeper, [], [], [rec("www.firm", "addr", 1, 6)])
        self.refused(keeper, [], [], [rec("www.com", "addr", 1)])
        self.refused(keeper, [], [], [rec("www.firm", "other", "x")])
        self.refused(keeper, [], [], [rec("*.firm", "keeper", "x")])
        self.refused(keeper, [], [], [rec("s.firm", "addr", 9)])
        self.refused(keeper, [], [rec("s.firm", "keeper", "ns.s.firm")], [rec("s.firm", "keeper", "b")])
        self.refused(keeper, [], [A1], [rec(f"a{k}.firm", "addr", 1) for k in range(57)])
        self.done(keeper, [], [A1], [rec(f"a{k}.firm", "addr", 1) for k in range(56)])

    def test_all_lives_changed_at_once(self):
        keeper = Keeper(firm(A1, A2))
        self.done(keeper, [], [A1, A2], [rec("www.firm", "addr", 1, 6), rec("www.firm", "addr", 2, 6)])


class WishesTest(KeeperCase):
    def setUp(self):
        self.keeper = Keeper(firm(A1, A2, rec("a.b.firm", "text", "x"), rec("*.firm", "text", "y"),
                                  rec("o.firm", "other", "www.firm"), rec("g.firm", "gap", (("a", "z"), ("addr",)))))

    def both(self, holds, *wishes):
        """Each holds, or each doesn't: then nothing is done, whatever stands beside it."""
        for wish in wishes:
            if holds:
                self.done(self.keeper, [wish], [], [])
            else:
                self.undone(self.keeper, [wish], [], [])
                self.undone(self.keeper, [wish], [A1], [A3])

    def test_has_and_lacks(self):
        there = [(WWW, "addr"), (at("a.b.firm"), "text"), (at("*.firm"), "text"), (at("o.firm"), "other"), (FIRM, "top"),
                 (FIRM, "keeper"), (at("g.firm"), "gap")]
        not_there = [(WWW, "text"), (WWW, "key"), (at("b.firm"), "text"), (at("q.firm"), "text"), (at("o.firm"), "addr"),
                     (at("x.www.firm"), "addr"), (FIRM, "addr"), ((), "addr"), (at("com"), "addr"), (at("a.b.firm"), "addr"),
                     (at("g.firm"), "seal"), ((), "top")]
        self.both(True, *[("has",) + pair for pair in there])
        self.both(False, *[("lacks",) + pair for pair in there])
        self.both(False, *[("has",) + pair for pair in not_there])
        self.both(True, *[("lacks",) + pair for pair in not_there])

    def test_just(self):
        self.both(True, ("just", WWW, "addr", [1, 2]), ("just", WWW, "addr", [2, 1]), ("just", WWW, "text", []),
                  ("just", at("com"), "addr", []), ("just", at("a.b.firm"), "text", ["x"]),
                  ("just", FIRM, "keeper", [at("ns.firm")]), ("just", at("o.firm"), "other", [WWW]),
                  ("just", at("g.firm"), "gap", [(("a", "z"), ("addr",))]))
        self.both(False, ("just", WWW, "addr", []), ("just", WWW, "addr", [1]), ("just", WWW, "addr", [2]),
                  ("just", WWW, "addr", [1, 2, 3]), ("just", WWW, "addr", [1, 3]), ("just", WWW, "addr", [3, 4]),
                  ("just", WWW, "key", [1, 2]), ("just", WWW, "text", [""]), ("just", at("com"), "addr", [1]),
                  ("just", at("g.firm"), "gap", [(("a", "z"), ())]), ("just", at("q.firm"), "text", ["y"]))

    def test_just_these_tops(self):
        self.both(True, ("just", FIRM, "top", [(7, 20)]))
        self.both(False, ("just", FIRM, "top", [(7, 20)]), ("just", FIRM, "top", [(8, 21)]), ("just", FIRM, "top", []))
        self.both(True, ("just", FIRM, "top", [(8, 20)]))

    def test_just_whatever_their_lives(self):
        self.done(self.keeper, [], [A1, A2], [rec("www.firm", "addr", 1, 0), rec("www.firm", "addr", 2, 0)])
        self.both(True, ("just", WWW, "addr", [1, 2]))

    def test_several(self):
        holds, not_so = ("has", WWW, "addr"), ("lacks", WWW, "addr")
        self.done(self.keeper, [holds, holds, ("lacks", WWW, "key")], [A1], [])
        for wishes in ([not_so, holds], [holds, not_so], [not_so, not_so], [holds, not_so, holds], [("has", WWW, "key"), not_so]):
            self.undone(self.keeper, wishes, [], [A1])

    def test_they_are_of_what_stands_ahead_of_the_change(self):
        self.undone(self.keeper, [("has", WWW, "key")], [], [rec("www.firm", "key", 1)])
        self.undone(self.keeper, [("lacks", WWW, "addr")], [A1, A2], [])
        self.undone(self.keeper, [("just", WWW, "addr", [1])], [A2], [])
        self.done(self.keeper, [("lacks", WWW, "key")], [], [rec("www.firm", "key", 1)])
        self.undone(self.keeper, [("lacks", WWW, "key")], [], [])

    def test_ahead_of_what_cant_be_taken_or_put(self):
        wish = ("lacks", WWW, "addr")
        self.undone(self.keeper, [wish], [A3], [])
        self.undone(self.keeper, [wish], [], [A1])
        self.undone(self.keeper, [wish], [], [rec("com", "addr", 1)])
        self.undone(self.keeper, [wish], [KEEPER], [])
        self.refused(self.keeper, [("has", WWW, "addr")], [A3], [])


class FormTest(KeeperCase):
    def setUp(self):
        self.keeper = Keeper(firm(A1, A2))
        self.not_so = ("lacks", WWW, "addr")

    def wrong(self, wishes, takes, puts):
        """Refused, with a wish that doesn't hold beside it, too."""
        self.refused(self.keeper, wishes, takes, puts)
        if isinstance(wishes, list):
            self.refused(self.keeper, [self.not_so] + wishes, takes, puts)
            self.refused(self.keeper, wishes + [self.not_so], takes, puts)

    def test_what_are_no_lists(self):
        for thing in odd_things() + [(), "", (A1,), {}, Agreeing(), A1, ("has", WWW, "addr")]:
            self.wrong(thing, [], [])
            self.wrong([], thing, [])
            self.wrong([], [], thing)
        self.wrong((("has", WWW, "addr"),), [], [])
        self.wrong([], (A1,), [])
        self.wrong([], [], (A3,))

    def test_what_are_no_wishes(self):
        for wish in odd_things() + [
                (), [], "has", ("has",), ("has", WWW), ("has", WWW, "addr", []), ("has", WWW, "addr", [1]), ["has", WWW, "addr"],
                ("had", WWW, "addr"), ("HAS", WWW, "addr"), ("", WWW, "addr"), (None, WWW, "addr"), (["has"], WWW, "addr"),
                (b"has", WWW, "addr"), (Agreeing(), WWW, "addr"), ("has", "www.firm.", "addr"), ("has", ["www", "firm"], "addr"),
                ("has", None, "addr"), ("has", ("a", "*"), "addr"), ("has", WWW, "adr"), ("has", WWW, None), ("has", WWW, ["addr"]),
                ("lacks", WWW), ("lacks", WWW, "addr", []), ("lacks", "www", "addr"), ("lacks", WWW, 1), ("has", "addr", WWW),
                ("just", WWW, "addr"), ("just", WWW, "addr", 1), ("just", WWW, "addr", (1, 2)), ("just", WWW, "addr", None),
                ("just", WWW, "addr", [1, 2], []), ("just", WWW, "addr", {}), ("just", WWW, "addr", "12"), ("just", WWW, "adr", []),
                ("just", "www.firm.", "addr", []), ("just", WWW, "addr", [A1]), ("just", WWW, "addr", [[1]]), ("just", WWW, []),
                ("just", WWW, "addr", [1, None]), ("just", WWW, "addr", [Agreeing()]), ("just", WWW, "text", ["x", ["y"]])]:
            self.wrong([wish], [], [])

    def test_data_of_another_kind(self):
        for kind in KINDS:
            for data in BAD_DATA[kind]:
                self.wrong([("just", WWW, kind, [data])], [], [])
                self.wrong([("just", WWW, kind, GOOD_DATA[kind] + [data])], [], [])
            self.undone(self.keeper, [("just", at("com"), kind, GOOD_DATA[kind])], [], [])

    def test_alike_data_in_a_wish(self):
        for kind in KINDS:
            for data in GOOD_DATA[kind]:
                self.wrong([("just", WWW, kind, [data, data])], [], [])
                self.wrong([("just", WWW, kind, GOOD_DATA[kind] + [data])], [], [])
        self.wrong([("just", WWW, "addr", [1, 2, 1])], [], [])

    def test_what_are_no_records(self):
        for thing in odd_things() + [list(A1), A1[:3], A1 + (1,), rec("www.firm", "addr", True), rec("www.firm", "addr", 7, True),
                                     rec("www.firm", "addr", -1), rec("a.*", "addr", 1), [A1], "www.firm. 5 addr 1", (), []]:
            self.wrong([], [thing], [])
            self.wrong([], [], [thing])
            self.wrong([], [A1, thing], [])
            self.wrong([], [], [A3, thing])

    def test_tops(self):
        top, new = TOP, (FIRM, "top", 60, (8, 20))
        for takes, puts in [([top], [new]), ([top], []), ([], [new]), ([], [top]), ([top], [top]), ([A1, top], []), ([], [A3, new]),
                            ([rec("com", "top", (1, 1))], []), ([], [rec("com", "top", (1, 1))])]:
            self.wrong([], takes, puts)

    def test_alike_ones(self):
        self.wrong([], [A1, A1], [])
        self.wrong([], [A1, A2, A1], [])
        self.wrong([], [A3, A3], [])
        self.wrong([], [], [A3, A3])
        self.wrong([], [A1], [A3, A1, A3])
        # Of unlike lives they are no alike ones: here a wish is looked at first.
        self.undone(self.keeper, [self.not_so], [A1, rec("www.firm", "addr", 1, 6)], [])
        self.undone(self.keeper, [self.not_so], [], [A3, rec("www.firm", "addr", 3, 6)])
        self.refused(self.keeper, [], [A1, rec("www.firm", "addr", 1, 6)], [])
        self.refused(self.keeper, [], [], [A3, rec("www.firm", "addr", 3, 6)])
        self.done(self.keeper, [("has", WWW, "addr"), ("has", WWW, "addr")], [], [])


class SinceTest(KeeperCase):
    def test_of_its_own_version(self):
        keeper = Keeper(firm(A1))
        self.assertTrue(same(keeper.since(7), []))
        self.done(keeper, [], [], [A2])
        self.assertTrue(same(keeper.since(8), []))

    def test_of_the_last_five_changes(self):
        keeper = Keeper(zone_at(3))
        records = [rec("www.firm", "addr", k) for k in range(9)]
        steps = []
        for k in range(9):
            self.done(keeper, [], records[k - 1:k], [records[k]])
            steps.append((3 + k, 4 + k, records[:k][-1:], [records[k]]))
            steps = steps[-5:]
            for many in range(len(steps) + 1):
                self.assertTrue(same(keeper.since(4 + k - many), steps[len(steps) - many:]), (k, many))
            for version in (3 + k - len(steps), 2, 0, 5 + k, LAST, 100):
                self.assertIsNone(keeper.since(version), (k, version))

    def test_over_the_last_version(self):
        keeper = Keeper(zone_at(LAST - 2))
        for k in range(6):
            self.done(keeper, [], [], [rec("www.firm", "addr", k)])
        self.assertEqual(keeper.version(), 3)
        self.assertEqual([step[:2] for step in keeper.since(LAST - 1)], [(LAST - 1, LAST), (LAST, 0), (0, 1), (1, 2), (2, 3)])
        self.assertIsNone(keeper.since(LAST - 2))
        self.assertEqual([step[:2] for step in keeper.since(0)], [(0, 1), (1, 2), (2, 3)])

    def test_lists_in_order(self):
        keeper = Keeper(firm(A1, A2, A3))
        puts = [rec("z.firm", "gap", (("a", "z"), ())), rec("z.firm", "gap", (("b", "y"), ())), rec("b.a.firm", "text", "y"),
                rec("b.firm", "text", "x"), rec("c.firm", "addr", 10), rec("c.firm", "addr", 9)]
        self.assertIs(keeper.change([], [A3, A1, A2], puts), True)
        self.assertTrue(same(keeper.since(7), [(7, 8, [A1, A2, A3], [
            rec("b.a.firm", "text", "y"), rec("b.firm", "text", "x"), rec("c.firm", "addr", 9), rec("c.firm", "addr", 10),
            rec("z.firm", "gap", (("b", "y"), ())), rec("z.firm", "gap", (("a", "z"), ()))])]))

    def test_changes_that_were_not_done_are_none(self):
        keeper = Keeper(firm(A1))
        self.done(keeper, [], [], [A2])
        self.undone(keeper, [("lacks", WWW, "addr")], [], [A3])
        self.refused(keeper, [], [A3], [])
        self.done(keeper, [], [], [])
        self.assertTrue(same(keeper.since(7), [(7, 8, [], [A2]), (8, 9, [], [])]))

    def test_what_was_told_may_be_changed(self):
        keeper = Keeper(firm(A1))
        takes, puts = [A1], [A2]
        keeper.change([], takes, puts)
        keeper.change([], [], [A3])
        wanted = [(7, 8, [A1], [A2]), (8, 9, [], [A3])]
        takes.clear()
        puts.append(A1)
        first = keeper.since(7)
        self.assertTrue(same(first, wanted))
        first[0][2].clear()
        first[0][3].append(A1)
        first.clear()
        keeper.since(8)[0][3].clear()
        keeper.since(9).append(1)
        self.assertTrue(same(keeper.since(7), wanted))
        self.assertTrue(same(keeper.since(8), wanted[1:]))
        self.assertTrue(same(keeper.since(9), []))
        told = keeper.zone().records()
        keeper.zone().records().clear()
        self.assertTrue(same(keeper.zone().records(), told))
        early = keeper.since(7)
        keeper.change([], [], [])
        self.assertTrue(same(early, wanted))

    def test_what_is_no_version(self):
        keeper = Keeper(zone_at(1))
        keeper.change([], [], [])
        for thing in odd_things() + [-1, 2 ** 32, 2 ** 32 + 1, 10 ** 30, True, False, "1", "", [1], (), [], {}, 1.0, Agreeing()]:
            if type(thing) is not int or not 0 <= thing < 2 ** 32:
                with self.assertRaises(BadChange, msg=repr(thing)):
                    keeper.since(thing)


if __name__ == "__main__":
    unittest.main()
