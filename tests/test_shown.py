"""Promises [1] and [16]: what steps show, and what of steps that were tampered with."""

import copy
import random
import unittest

from namehouse.errors import BadName, BadRecord
from namehouse.names import below
from namehouse.records import ordered
from namehouse.seals import sum_of
from namehouse.shown import shown, step_of
from tests.sealthings import chain, root_step, seal, sealed_at, with_seals
from tests.test_memory import NO_KINDS, NO_NAMES
from tests.test_seals import LONG, NO_KEYS
from tests.things import odd_things, same
from tests.zonethings import at, rec

KEY = rec("", "key", 3)


def gap(name, onward, kinds, live=5):
    return rec(name, "gap", (at(onward), tuple(sorted(kinds))), live)


class ShownCase(unittest.TestCase):
    def shows(self, steps, name, kind, wanted, trusted=3):
        kept = copy.deepcopy(steps)
        found = shown(trusted, steps, at(name), kind)
        self.assertTrue(same(found, wanted), (name, kind, found, wanted))
        self.assertTrue(same(steps, kept))

    def one(self, sets, name, kind, wanted):
        """So does one step at () of these sets, each well sealed, in whatever order."""
        origin, records = root_step(*sets)
        self.shows([(origin, records)], name, kind, wanted)
        self.shows([(origin, records[::-1])], name, kind, wanted)
        self.shows([(origin, ordered(records))], name, kind, wanted)


class OneStepTest(ShownCase):
    def test_good(self):
        records = [rec("a", "addr", 9, 7), rec("a", "addr", 2, 6)]
        self.one([records], "a", "addr", ("good", [rec("a", "addr", 2, 6), rec("a", "addr", 9, 7)]))
        self.one([[rec("", "top", (1, 2))]], "", "top", ("good", [rec("", "top", (1, 2))]))
        self.one([[rec("*.a", "text", "x")]], "*.a", "text", ("good", [rec("*.a", "text", "x")]))
        self.one([], "", "key", ("good", [KEY]))
        self.one([records], "a", "text", None)
        self.one([records], "b", "addr", None)

    def test_other(self):
        self.one([[rec("a", "other", "b")]], "a", "addr", ("other", ("b",)))
        self.one([[rec("a", "other", "b")]], "a", "other", ("good", [rec("a", "other", "b")]))
        self.one([[rec("a", "other", "b")], [rec("a", "addr", 1)]], "a", "addr", ("good", [rec("a", "addr", 1)]))
        self.one([[rec("a", "other", "x.c"), rec("a", "other", "b")]], "a", "addr", ("other", ("b",)))
        self.one([[rec("a", "other", "b")], [gap("a", "", ["text"])]], "a", "addr", ("other", ("b",)))

    def test_empty_by_the_gap_at_the_name(self):
        self.one([[gap("a", "b", ["text", "gap"])]], "a", "addr", ("empty",))
        self.one([[gap("a", "b", [])]], "a", "addr", ("empty",))
        self.one([[gap("a", "b", ["text", "gap"])]], "a", "text", None)
        self.one([[gap("a", "b", ["other"])]], "a", "addr", None)
        self.one([[gap("a", "b", ["other"])]], "a", "other", None)
        self.one([[gap("a", "a", ["text"])]], "a", "addr", ("empty",))

    def test_empty_by_a_gap_that_leads_to_a_name_below(self):
        self.one([[gap("a", "x.y.b", ["addr"])]], "y.b", "addr", ("empty",))
        self.one([[gap("a", "x.y.b", ["addr"])]], "b", "addr", ("empty",))
        self.one([[gap("a", "x.y.b", ["addr"])]], "x.y.b", "addr", None)
        self.one([[gap("a", "*.b", ["addr"])]], "b", "addr", ("empty",))
        self.one([[gap("a", "x.y.b", ["addr"])]], "z.b", "addr", None)

    def test_what_a_gap_spans(self):
        lacking = ("lacking",)
        # It spans the names between its own and its next one; the other gap tells that there is no star.
        star = [gap("", "a", [])]
        for name, wanted in [("b", lacking), ("x.a", lacking), ("d", None), ("e", None), ("x.d", None), ("-", lacking), ("a", None), ("c.c", lacking)]:
            self.one([[gap("a", "d", ["addr"])], star], name, "addr", wanted)
        for name, wanted in [("b", lacking), ("d", lacking), ("z.z", lacking), ("-", lacking), ("a", None), ("", ("empty",))]:
            self.one([[gap("a", "", ["addr"])], star], name, "text" if name == "b" else "addr", wanted)

    def test_lacking(self):
        # x.a isn't there; the star ahead of a is spanned by the same gap.
        self.one([[gap("a", "b", ["addr"])]], "x.a", "addr", ("lacking",))
        self.one([[gap("a", "", ["addr"])]], "z.y.x.a", "text", ("lacking",))
        self.one([[gap("", "b", ["top"])]], "a", "addr", ("lacking",))
        self.one([[gap("", "", ["top"])]], "a", "key", ("lacking",))
        self.one([[gap("", "b", ["top"])]], "*", "addr", ("lacking",))
        self.one([[gap("a", "b", ["addr"])]], "*.a", "addr", ("lacking",))

    def test_lacking_needs_both(self):
        # c isn't there, but of the star at () nothing is known.
        self.one([[gap("b", "d", [])]], "c", "addr", None)
        self.one([[gap("", "b", [])]], "c", "addr", None)
        self.one([[gap("b", "d", [])], [gap("", "a", [])]], "c", "addr", ("lacking",))

    def test_the_nearest_name_above_by_the_gaps_names(self):
        # x.y.a: above it a is there, for b.a is; above y.b.a it is b.a.
        spanning = gap("b.a", "c.a", [])
        for name, star in [("bb.a", "*.a"), ("x.bb.a", "*.a"), ("x.b.a", "*.b.a"), ("x.y.b.a", "*.b.a")]:
            self.one([[spanning], [rec(star, "addr", 4)]], name, "addr", ("good", [rec(name, "addr", 4)]))
        self.one([[spanning], [rec("*", "addr", 4)]], "bb.a", "addr", None)
        self.one([[spanning], [rec("*.a", "addr", 4)]], "x.b.a", "addr", ("lacking",))
        # The next one's names above are there as well.
        spanning = gap("a", "x.y.c", [])
        self.one([[spanning], [rec("*.c", "addr", 4)]], "b.c", "addr", ("good", [rec("b.c", "addr", 4)]))
        self.one([[spanning], [rec("*.y.c", "addr", 4)]], "b.y.c", "addr", ("good", [rec("b.y.c", "addr", 4)]))
        self.one([[spanning], [rec("*", "addr", 4)]], "b", "addr", ("good", [rec("b", "addr", 4)]))

    def test_by_the_star(self):
        spanning = [gap("a", "c", [])]
        records = [rec("*", "addr", 9, 4), rec("*", "addr", 2, 4)]
        put = [rec("x.b", "addr", 2, 4), rec("x.b", "addr", 9, 4)]
        self.one([spanning, records], "x.b", "addr", ("good", put))
        self.one([spanning, records], "x.b", "text", None)
        self.one([spanning, [rec("*", "other", "d")]], "x.b", "addr", ("other", ("d",)))
        self.one([spanning, [rec("*", "other", "d")]], "x.b", "other", ("good", [rec("x.b", "other", "d")]))
        self.one([spanning, [gap("*", "a", ["text"])]], "x.b", "addr", ("empty",))
        self.one([spanning, [gap("*", "a", ["text"])]], "x.b", "text", None)
        self.one([spanning, [gap("*", "a", ["other"])]], "x.b", "addr", None)
        self.one([spanning, records, [gap("*", "a", ["text"])], [rec("*", "other", "d")]], "x.b", "addr", ("good", put))
        self.one([spanning, [gap("*", "a", ["text"])], [rec("*", "other", "d")]], "x.b", "addr", ("other", ("d",)))
        self.one([spanning, [gap("*", "a", ["text"])], [gap("", "a", [])]], "x.b", "addr", ("empty",))
        # Without a gap that spans the name the star is no help.
        self.one([records], "x.b", "addr", None)

    def test_names_that_are_there_arent_the_stars(self):
        self.one([[gap("a", "x.b", [])], [rec("*", "addr", 9)]], "b", "addr", ("empty",))
        self.one([[gap("a", "b", [])], [gap("b", "c", ["text"])], [rec("*", "addr", 9)]], "b", "addr", ("empty",))

    def test_of_several_the_one_told_first(self):
        own, star = rec("b", "addr", 1), rec("*", "addr", 2)
        other, stars = rec("b", "other", "c"), rec("*", "other", "d")
        spanning, here, below_it, starry, first = gap("a", "c", []), gap("b", "c", []), gap("a.a", "x.b", []), gap("*", "a", []), gap("", "a", [])
        sets = [own, other, here, star, stars, starry]
        rest = [spanning, first]
        wanted = [("good", [own]), ("other", ("c",)), ("empty",), ("good", [rec("b", "addr", 2)]), ("other", ("d",)), ("empty",), ("lacking",)]
        for left in range(7):
            self.one([[one] for one in sets[left:] + rest], "b", "addr", wanted[left])
        self.one([[one] for one in [below_it, star, stars, starry] + rest], "b", "addr", ("empty",))

    def test_gaps_of_handed_on_names_are_let_be(self):
        handed = gap("s", "t", ["gap", "keeper", "seal"])
        for name in ("x.s", "y.x.s", "s", "*.s"):
            for kind in ("addr", "text", "keeper", "other", "top", "key"):
                self.one([[handed]], name, kind, None)
        self.one([[handed]], "s", "trust", ("empty",))
        self.one([[handed]], "x.s", "trust", None)
        self.one([[gap("s", "t", ["gap", "keeper", "seal", "trust"])]], "s", "trust", None)
        # For names that aren't below it, it speaks.
        self.one([[gap("s", "u", ["keeper"])], [gap("", "s", [])]], "t", "addr", ("lacking",))
        self.one([[gap("s", "x.t", ["keeper"])]], "t", "addr", ("empty",))
        # With top, or without keeper, it is another thing.
        self.one([[gap("s", "t", ["keeper", "top"])]], "x.s", "addr", ("lacking",))
        self.one([[gap("s", "t", ["keeper", "top"])]], "s", "addr", ("empty",))
        self.one([[gap("s", "t", ["text"])]], "x.s", "addr", ("lacking",))

    def test_let_be_by_the_stars_name(self):
        # The gap at *.a is let be for that star but of trust, and one at a for the star, but both aren't for b.
        spanning = gap("x.a", "z.a", [])
        for kind, wanted in [("addr", None), ("trust", ("empty",))]:
            self.one([[spanning], [gap("*.a", "x.a", ["keeper"])]], "y.a", kind, wanted)
        self.one([[spanning], [gap("a", "x.a", ["keeper"])]], "y.a", "addr", None)
        self.one([[spanning], [gap("a", "x.a", ["keeper"])]], "y.a", "trust", None)
        self.one([[spanning], [gap("a", "x.a", ["keeper", "top"])]], "y.a", "addr", ("lacking",))
        self.one([[gap("m", "z", [])], [gap("", "m", ["keeper"])]], "n", "addr", None)
        self.one([[gap("m", "z", [])], [gap("", "m", ["keeper", "top"])]], "n", "addr", ("lacking",))

    def test_several_gaps_at_one_name_hold_together(self):
        two = [gap("a", "b", ["text"]), gap("a", "c", ["addr"])]
        self.one([two], "a", "addr", ("empty",))
        self.one([two], "a", "text", ("empty",))
        self.one([two], "x.a", "addr", ("lacking",))
        origin, records = root_step([two[0]])
        self.shows([(origin, records + [two[1]])], "a", "addr", None)

    def test_a_name_that_isnt_below_the_origin(self):
        zones = [sealed_at("", [3], rec("a", "keeper", "x"), rec("a", "trust", 4)), sealed_at("a", [4], rec("w.a", "addr", 1))]
        steps = chain(zones, at("w.a"), "addr")
        self.shows(steps, "w.a", "addr", ("good", [rec("w.a", "addr", 1)]))
        for name in ("", "b", "w", "a.b"):
            self.shows(steps, name, "addr", None)
        extra = [(steps[1][0], steps[1][1] + with_seals(4, [rec("b", "addr", 3)]))]
        self.shows(steps[:1] + extra, "b", "addr", None)
        self.shows(steps[:1] + extra, "w.a", "addr", ("good", [rec("w.a", "addr", 1)]))

    def test_what_leads_to_the_origin_of_the_last_step(self):
        first = (), with_seals(3, [KEY], [rec("a", "trust", 4)])
        second = at("a"), with_seals(4, [rec("a", "key", 4)], [gap("m.a", "a", [])], [gap("a", "m.a", ["top", "keeper"])])
        self.shows([first, second], "z.a", "addr", ("lacking",))
        # A gap that leads to the root leads backwards here.
        second = at("a"), with_seals(4, [rec("a", "key", 4)], [gap("m.a", "", [])], [gap("a", "m.a", ["top", "keeper"])])
        self.shows([first, second], "z.a", "addr", None)


class HoldsTest(ShownCase):
    """Which sets hold."""

    def setUp(self):
        self.records = [rec("a", "addr", 1), rec("a", "addr", 2)]

    def step(self, *more):
        return [((), with_seals(3, [KEY]) + list(more))]

    def test_a_seal_by_a_key_of_the_step(self):
        wanted = ("good", self.records)
        right = seal(self.records, 3)
        self.shows(self.step(*self.records, right), "a", "addr", wanted)
        self.shows(self.step(*self.records), "a", "addr", None)
        self.shows(self.step(*self.records, seal(self.records, 4)), "a", "addr", None)
        self.shows(self.step(*self.records, seal(self.records, 4), right, right), "a", "addr", wanted)
        self.shows(self.step(self.records[0], right), "a", "addr", None)
        self.shows(self.step(*self.records, rec("a", "addr", 3), right), "a", "addr", None)
        self.shows(self.step(rec("a", "addr", 1), rec("a", "addr", 3), right), "a", "addr", None)
        wrong = right[:3] + (("addr", 3, (right[3][2] + 1) % 1000000007),)
        self.shows(self.step(*self.records, wrong), "a", "addr", None)
        self.shows(self.step(*self.records, rec("b", "seal", right[3])), "a", "addr", None)
        self.shows(self.step(*self.records, rec("a", "seal", ("text",) + right[3][1:])), "a", "addr", None)

    def test_lives_arent_heeded_and_are_told(self):
        other = [rec("a", "addr", 1, 99), rec("a", "addr", 2, 98)]
        self.shows(self.step(*other, seal(self.records, 3)), "a", "addr", ("good", other))

    def test_a_set_told_twice_or_with_two_of_one_data(self):
        right = seal(self.records, 3)
        self.shows(self.step(*self.records, *self.records, right), "a", "addr", None)
        self.shows(self.step(*self.records, self.records[0], right), "a", "addr", None)
        self.shows(self.step(*self.records, rec("a", "addr", 1, 99), right), "a", "addr", None)

    def test_a_set_without_a_row(self):
        for total in (0, 3, 5):
            self.shows(self.step(*LONG, rec("a", "seal", ("text", 3, total))), "a", "text", None)

    def test_several_keys(self):
        keys = [rec("", "key", 3), rec("", "key", 4), rec("", "key", 5)]
        base = keys + [seal(keys, 3)]
        for key in (3, 4, 5):
            self.shows([((), base + self.records + [seal(self.records, key)])], "a", "addr", ("good", self.records))
        self.shows([((), base + self.records + [seal(self.records, 6)])], "a", "addr", None)


class KeysTest(ShownCase):
    def test_another_trusted_number(self):
        steps = [root_step([rec("a", "addr", 1)])]
        self.shows(steps, "a", "addr", ("good", [rec("a", "addr", 1)]))
        for trusted in (1, 2, 4, 10 ** 12):
            self.shows(steps, "a", "addr", None, trusted)

    def test_by_a_trusted_one_among_them(self):
        keys = [rec("", "key", 4), rec("", "key", 3)]
        here = with_seals(4, [rec("a", "addr", 1)])
        good = ("good", [rec("a", "addr", 1)])
        self.shows([((), keys + [seal(keys, 3)] + here)], "a", "addr", good)
        self.shows([((), keys + [seal(keys, 4)] + here)], "a", "addr", None)
        self.shows([((), keys + [seal(keys, 4)] + here)], "a", "addr", good, trusted=4)
        self.shows([((), keys + [seal(keys, 5)] + here)], "a", "addr", None)
        self.shows([((), keys + here)], "a", "addr", None)

    def test_keys_exchanged_for_others(self):
        here = with_seals(4, [rec("a", "addr", 1)])
        evil = [rec("", "key", 4)]
        # Sealed by the trusted one, but that isn't among them.
        self.shows([((), evil + [seal(evil, 3)] + here)], "a", "addr", None)
        self.shows([((), evil + [seal(evil, 4)] + here)], "a", "addr", None)
        both = evil + [KEY]
        self.shows([((), both + [seal([KEY], 3)] + here)], "a", "addr", None)
        self.shows([((), both + [seal(both, 3)] + here)], "a", "addr", ("good", [rec("a", "addr", 1)]))

    def test_no_keys_or_keys_told_twice(self):
        here = with_seals(3, [rec("a", "addr", 1)])
        self.shows([((), here)], "a", "addr", None)
        self.shows([((), [KEY, KEY, seal([KEY], 3)] + here)], "a", "addr", None)
        self.shows([((), [KEY, rec("", "key", 3, 77), seal([KEY], 3)] + here)], "a", "addr", None)
        self.shows([((), [])], "a", "addr", None)
        below_it = rec("b", "key", 3)
        self.shows([((), [below_it, seal([below_it], 3)] + here)], "a", "addr", None)


class SeveralStepsTest(ShownCase):
    def setUp(self):
        self.zones = [
            sealed_at("", [3, 4], rec("c", "keeper", "x"), rec("c", "trust", 5), rec("c", "trust", 6), rec("d", "keeper", "x"), rec("d", "trust", 5)),
            sealed_at("c", [6, 7], rec("b.c", "keeper", "x"), rec("b.c", "trust", 8)),
            sealed_at("b.c", [8], rec("w.b.c", "addr", 1), rec("o.b.c", "other", "x"))]
        self.steps = chain(self.zones, at("w.b.c"), "addr")
        self.good = ("good", [rec("w.b.c", "addr", 1)])

    def test_from_step_to_step(self):
        for trusted in (3, 4):
            self.shows(self.steps, "w.b.c", "addr", self.good, trusted)
        for trusted in (1, 5, 6, 7, 8):
            self.shows(self.steps, "w.b.c", "addr", None, trusted)

    def test_left_out_twice_or_exchanged(self):
        first, second, third = self.steps
        for steps in ([first, third], [second, third], [third], [second, first, third], [first, third, second], [first, first, second, third],
                      [first, second, second, third], [first, second, third, third], [third, second, first], [first, second], [first]):
            self.shows(steps, "w.b.c", "addr", None)

    def test_a_step_of_another_origin(self):
        other = sealed_at("d", [5], rec("w.d", "addr", 1), rec("b.d", "keeper", "x"), rec("b.d", "trust", 8))
        step = step_of(other, at("w.d"), "addr")
        top = step_of(self.zones[0], at("w.d"), "addr")
        self.shows([top, step], "w.d", "addr", ("good", [rec("w.d", "addr", 1)]))
        # Another name's trusts are none for it, and it isn't below c.
        self.shows([self.steps[0], step], "w.d", "addr", None)
        self.shows(self.steps + [step], "w.d", "addr", None)
        self.shows([(at("d"), top[1]), step], "w.d", "addr", None)
        self.shows([(at("c"), self.steps[0][1])] + self.steps[1:], "w.b.c", "addr", None)

    def test_the_first_step_is_the_roots(self):
        for steps, trusted in ((self.steps[1:], 6), (self.steps[1:], 7), (self.steps[2:], 8)):
            self.shows(steps, "w.b.c", "addr", None, trusted)
        zone = sealed_at("a", [3], rec("w.a", "addr", 1))
        self.shows([step_of(zone, at("w.a"), "addr")], "w.a", "addr", None)

    def test_each_next_ones_origin_is_below_that_of_the_step_ahead_and_not_it(self):
        # All is trusted and sealed; the origins alone aren't right.
        sets = [[rec(name, "trust", 3)] for name in ("", "c", "d", "x.d", "b.c")]
        steps = {name: (at(name), with_seals(3, [rec(name, "key", 3)], [rec("w.b.c", "addr", 1)], *sets)) for name in ("", "c", "d", "b.c")}
        for origins, good in [(["", "c", "b.c"], True), (["", "b.c"], True), (["", "c"], True), ([""], True), (["", "", "b.c"], False),
                              (["", "c", "c"], False), (["", "c", "c", "b.c"], False), (["c", "b.c"], False), (["", "b.c", "c"], False),
                              (["", "d", "b.c"], False), (["", "d", "c", "b.c"], False), (["", "c", "", "b.c"], False), (["", ""], False)]:
            wanted = ("good", [rec("w.b.c", "addr", 1)]) if good else None
            self.shows([steps[name] for name in origins], "w.b.c", "addr", wanted)

    def test_every_record_of_each_step_is_needed(self):
        for place, (origin, records) in enumerate(self.steps):
            for left in range(len(records)):
                steps = list(self.steps)
                steps[place] = (origin, records[:left] + records[left + 1:])
                found = shown(3, steps, at("w.b.c"), "addr")
                self.assertIn(found, (None, self.good))
                if records[left][1] not in ("seal", "gap"):
                    self.assertIsNone(found, records[left])

    def test_sets_with_one_number_otherwise(self):
        for place, (origin, records) in enumerate(self.steps):
            for k, record in enumerate(records):
                if record[1] in ("key", "trust", "addr"):
                    steps = list(self.steps)
                    steps[place] = (origin, records[:k] + [record[:3] + (record[3] + 100,)] + records[k + 1:])
                    self.shows(steps, "w.b.c", "addr", None)

    def test_trusts_that_dont_hold(self):
        zone = sealed_at("c", [6], rec("w.c", "addr", 1))
        step = step_of(zone, at("w.c"), "addr")
        trust = rec("c", "trust", 6)
        good = ("good", [rec("w.c", "addr", 1)])
        self.shows([root_step([trust]), step], "w.c", "addr", good)
        self.shows([((), with_seals(3, [KEY]) + [trust]), step], "w.c", "addr", None)
        self.shows([((), with_seals(3, [KEY]) + [trust, seal([trust], 6)]), step], "w.c", "addr", None)
        self.shows([((), with_seals(3, [KEY]) + [trust, trust, seal([trust], 3)]), step], "w.c", "addr", None)
        self.shows([root_step([rec("d", "trust", 6)]), step], "w.c", "addr", None)
        self.shows([root_step([rec("c", "key", 6)]), step], "w.c", "addr", None)
        # The number that was trusted at first isn't trusted further down.
        low = sealed_at("c", [3], rec("w.c", "addr", 1))
        self.shows([root_step([trust]), step_of(low, at("w.c"), "addr")], "w.c", "addr", None)

    def test_steps_over_names_between(self):
        zone = sealed_at("a.b.c", [6], rec("w.a.b.c", "addr", 1))
        steps = [root_step([rec("a.b.c", "trust", 6)]), step_of(zone, at("w.a.b.c"), "addr")]
        self.shows(steps, "w.a.b.c", "addr", ("good", [rec("w.a.b.c", "addr", 1)]))

    def test_the_last_keys_alone_seal_the_last_step(self):
        origin, records = self.steps[2]
        foreign = [rec("v.b.c", "addr", 2)]
        for key, wanted in [(8, ("good", foreign)), (3, None), (6, None), (7, None)]:
            steps = self.steps[:2] + [(origin, records + foreign + [seal(foreign, key)])]
            self.shows(steps, "v.b.c", "addr", wanted)


class RefusalTest(ShownCase):
    def setUp(self):
        self.step = root_step([rec("a", "addr", 1)])

    def refused(self, error, *things):
        with self.assertRaises(error, msg=repr(things)) as caught:
            shown(*things)
        self.assertIs(type(caught.exception), error)

    def test_a_trusted_number(self):
        for thing in NO_KEYS:
            self.refused(BadRecord, thing, [self.step], at("a"), "addr")
            self.refused(BadRecord, thing, [self.step], None, "addr")

    def test_steps(self):
        steps = [([self.step] * 7)] + [[], (self.step,), self.step, {(): 1}, "", iter([self.step])] + odd_things()
        no_step = odd_things() + [list(self.step), self.step[:1], self.step + ([],), ((), ()), ((), None), ("", []), (None, []), (".", []),
                                  ([], []), (("*",), []), (("*", "a"), []), ((), [None]), ((), [list(KEY)]), ((), [KEY, KEY[:3]]), ((), {}),
                                  (("A",), []), ((), tuple(self.step[1])), ((), [KEY] * 61), (), []]
        for thing in steps + [[one] for one in no_step] + [[self.step, one] for one in no_step]:
            self.refused(BadRecord, 3, thing, at("a"), "addr")
            self.refused(BadRecord, 3, thing, None, "addr")

    def test_a_name_then_a_kind(self):
        for name in NO_NAMES:
            for kind in ("addr", "gap", None):
                self.refused(BadName, 3, [self.step], name, kind)
        for kind in NO_KINDS + ["seal", "gap"]:
            self.refused(BadRecord, 3, [self.step], at("a"), kind)
            self.refused(BadRecord, 4, [self.step], at("a"), kind)

    def test_sixty_records_and_one_more(self):
        origin, records = self.step
        fill = [rec("z", "addr", k) for k in range(60 - len(records))]
        self.shows([(origin, records + fill)], "a", "addr", ("good", [rec("a", "addr", 1)]))
        self.refused(BadRecord, 3, [(origin, records + fill + [rec("z", "text", "x")])], at("a"), "addr")

    def test_six_steps_and_one_more(self):
        steps = [self.step] + [(("a",) * k, []) for k in range(1, 6)]
        self.shows(steps, "a.a.a.a.a", "addr", None)
        self.refused(BadRecord, 3, steps + [(("a",) * 6, [])], at("a"), "addr")

    def test_what_is_told_is_the_askers_own(self):
        steps = [self.step]
        told = shown(3, steps, at("a"), "addr")
        told[1].clear()
        self.shows(steps, "a", "addr", ("good", [rec("a", "addr", 1)]))
        told = shown(3, steps, at("a"), "addr")
        steps[0][1].clear()
        self.assertEqual(told, ("good", [rec("a", "addr", 1)]))


def rank(name):
    return tuple(reversed(name))


class Slow:
    """The same, read off the words once more: of one step at an origin, with the keys that it has."""

    def __init__(self, origin, records, keys):
        self.origin, self.records, self.keys = origin, records, keys

    def held(self, name, kind):
        found = [r for r in self.records if r[0] == name and r[1] == kind]
        if not found or len({r[3] for r in found}) < len(found):
            return None
        for r in self.records:
            if r[0] == name and r[1] == "seal" and r[3][0] == kind and r[3][1] in self.keys and r[3][2] == sum_of(found, r[3][1]):
                return ordered(found)
        return None

    def speaking(self, name, kind):
        found = []
        for r in self.records:
            if r[1] == "gap" and self.held(r[0], "gap"):
                handed = "keeper" in r[3][1] and "top" not in r[3][1]
                if not (handed and ((below(name, r[0]) and name != r[0]) or (name == r[0] and kind != "trust"))):
                    found.append((r[0], r[3][0], r[3][1]))
        return found

    def spanning(self, name, kind):
        return [g for g in self.speaking(name, kind) if rank(g[0]) < rank(name) and (g[1] == self.origin or rank(g[1]) > rank(name))]

    def told(self, name, kind):
        lines = []
        if self.held(name, kind):
            lines.append((1, ("good", self.held(name, kind))))
        if self.held(name, "other"):
            lines.append((2, ("other", self.held(name, "other")[0][3])))
        for own, onward, kinds in self.speaking(name, kind):
            if own == name and kind not in kinds and "other" not in kinds:
                lines.append((3, ("empty",)))
        for own, onward, kinds in self.spanning(name, kind):
            if below(onward, name):
                lines.append((3, ("empty",)))
                continue
            above = [name[k:] for k in range(1, len(name) + 1)]
            star = ("*",) + [a for a in above if below(own, a) or below(onward, a)][0]
            if self.held(star, kind):
                lines.append((4, ("good", [(name,) + r[1:] for r in self.held(star, kind)])))
            if self.held(star, "other"):
                lines.append((5, ("other", self.held(star, "other")[0][3])))
            for at_star, _, there in self.speaking(star, kind):
                if at_star == star and kind not in there and "other" not in there:
                    lines.append((6, ("empty",)))
            if self.spanning(star, kind):
                lines.append((7, ("lacking",)))
        return min(lines, key=lambda line: line[0])[1] if lines else None


class DrawnTest(ShownCase):
    def test_drawn_steps(self):
        draw = random.Random(61)
        names = [at(n) for n in ("", "a", "b", "s", "*", "a.a", "b.a", "*.a", "x.s", "*.s", "a.b", "c.b", "q", "x.a.a")]
        seen = {}
        for _ in range(130):
            sets = {}
            for _ in range(draw.randrange(1, 9)):
                name, kind = draw.choice(names), draw.choice(["addr", "other", "gap", "gap", "gap", "trust"])
                onward = draw.choice([n for n in names if "*" not in n] + [()] * 3)
                kinds = tuple(sorted(draw.sample(["addr", "keeper", "other", "text", "top", "trust"], draw.randrange(4))))
                data = {"addr": draw.randrange(3), "other": onward, "gap": (onward, kinds), "trust": 8}[kind]
                sets.setdefault((name, kind), []).append((name, kind, 5, data))
            records = []
            for found in sets.values():
                records += found
                try:
                    records.append(seal(found, draw.choice([3, 3, 3, 3, 4])))
                except BadRecord:
                    records.append((found[0][0], "seal", 5, (found[0][1], 3, 7)))
            draw.shuffle(records)
            step = (), with_seals(3, [KEY]) + records
            slow = Slow((), step[1], [3])
            for name in names + [at("z"), at("c.a"), at("y.x.s"), at("a.a.a"), at("-.b")]:
                for kind in ("addr", "trust", "other"):
                    wanted = slow.told(name, kind)
                    if wanted and wanted[0] in ("good", "other"):
                        # Of several stars any might be meant.
                        spans = {g[:2] for g in slow.spanning(name, kind)}
                        if len(spans) > 1 and not (slow.held(name, kind) or slow.held(name, "other")):
                            continue
                    self.shows([step], ".".join(name), kind, wanted)
                    seen[wanted and wanted[0]] = seen.get(wanted and wanted[0], 0) + 1
        self.assertGreater(min(seen[word] for word in ("good", "other", "empty", "lacking", None)), 30)


if __name__ == "__main__":
    unittest.main()
