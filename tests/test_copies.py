"""Promises [1] and [11]: copies, which follow a keeper."""

import random
import unittest

from namehouse.copies import Copy
from namehouse.keeping import Keeper
from namehouse.zones import Zone
from tests.things import same
from tests.zonethings import FIRM, KEEPER, at, firm, rec

LAST = 2 ** 32 - 1
A1, A2, A3 = [rec("www.firm", "addr", k) for k in (1, 2, 3)]


def keeper_at(version, *records):
    return Keeper(Zone(FIRM, [(FIRM, "top", 60, (version, 20)), KEEPER] + list(records)))


class CopyCase(unittest.TestCase):
    def alike(self, first, second):
        """Both hold the same zone."""
        self.assertTrue(same(first.version(), second.version()))
        self.assertTrue(same(first.zone().origin, second.zone().origin))
        self.assertTrue(same(first.zone().records(), second.zone().records()))

    def follows(self, one, keeper, word):
        self.assertTrue(same(one.follow(keeper), word))
        self.alike(one, keeper)


class CopyTest(CopyCase):
    def test_version_and_zone(self):
        zone = firm(A2, A1)
        one = Copy(zone)
        self.assertTrue(same(one.version(), 7))
        self.assertIsInstance(one.zone(), Zone)
        self.assertTrue(same(one.zone().origin, FIRM))
        self.assertTrue(same(one.zone().records(), zone.records()))

    def test_nothing_to_take(self):
        keeper = Keeper(firm(A1))
        one = Copy(keeper.zone())
        self.follows(one, keeper, "same")
        self.follows(one, keeper, "same")
        keeper.change([("has", FIRM, "addr")], [], [])
        self.follows(one, keeper, "same")

    def test_it_stays_until_it_follows(self):
        keeper = Keeper(firm(A1))
        early = keeper.zone().records()
        one = Copy(keeper.zone())
        keeper.change([], [A1], [A2])
        self.assertEqual(one.version(), 7)
        self.assertTrue(same(one.zone().records(), early))
        self.follows(one, keeper, "steps")
        self.follows(one, keeper, "same")

    def test_up_to_five_changes_behind_and_six(self):
        for many in range(1, 9):
            keeper = Keeper(firm(A1))
            one = Copy(keeper.zone())
            for k in range(many):
                keeper.change([], [], [rec("www.firm", "addr", 10 + k)])
            self.follows(one, keeper, "steps" if many <= 5 else "all")
            self.assertEqual(one.version(), 7 + many)
            keeper.change([], [A1], [])
            self.follows(one, keeper, "steps")

    def test_a_change_of_nothing(self):
        keeper = Keeper(firm(A1))
        one = Copy(keeper.zone())
        keeper.change([], [], [])
        self.follows(one, keeper, "steps")
        self.assertEqual(one.version(), 8)

    def test_what_was_put_is_taken_again_and_the_other_way_about(self):
        keeper = Keeper(firm(A1, A2))
        one = Copy(keeper.zone())
        keeper.change([], [A1], [A3])
        keeper.change([], [A3], [A1])
        keeper.change([], [A1], [A1])
        self.follows(one, keeper, "steps")
        self.assertTrue(same(one.zone().records()[2:], [A1, A2]))

    def test_all_lives_changed_at_once(self):
        keeper = Keeper(firm(A1, A2))
        one = Copy(keeper.zone())
        keeper.change([], [A1, A2], [rec("www.firm", "addr", 2, 9), rec("www.firm", "addr", 1, 9)])
        self.follows(one, keeper, "steps")

    def test_the_tops_live_and_none_stay(self):
        keeper = Keeper(firm())
        one = Copy(keeper.zone())
        keeper.change([], [], [A1])
        one.follow(keeper)
        self.assertTrue(same([r for r in one.zone().records() if r[1] == "top"], [(FIRM, "top", 60, (8, 20))]))

    def test_behind_the_last_version(self):
        keeper = keeper_at(LAST - 1, A1)
        one, other = Copy(keeper.zone()), Copy(keeper.zone())
        keeper.change([], [], [A2])
        self.follows(other, keeper, "steps")
        self.assertEqual(other.version(), LAST)
        keeper.change([], [A1], [])
        self.assertEqual(keeper.version(), 0)
        self.follows(other, keeper, "steps")
        self.follows(one, keeper, "steps")
        for k in range(6):
            keeper.change([], [], [rec("a.firm", "addr", k)])
        self.follows(one, keeper, "all")
        self.assertEqual(one.version(), 6)

    def test_of_an_earlier_zone(self):
        keeper = Keeper(firm(A1))
        zones = [keeper.zone()]
        for k in range(7):
            keeper.change([], [], [rec("b.firm", "addr", k)])
            zones.append(keeper.zone())
        words = []
        for zone in zones:
            one = Copy(zone)
            self.assertEqual(one.version(), 7 + len(words))
            words.append(one.follow(keeper))
            self.alike(one, keeper)
        self.assertEqual(words, ["all"] * 2 + ["steps"] * 5 + ["same"])

    def test_two_of_one_version_are_alike(self):
        keeper = Keeper(firm(A1))
        early = Copy(keeper.zone())
        for k in range(3):
            keeper.change([], [], [rec("b.firm", "addr", k)])
        late = Copy(keeper.zone())
        early.follow(keeper)
        self.alike(early, late)
        keeper.change([], [A1], [A3])
        late.follow(keeper)
        self.assertEqual(early.version(), 10)
        self.assertEqual(early.follow(keeper), "steps")
        self.alike(early, late)

    def test_lists_and_zones_may_be_changed(self):
        records = [(FIRM, "top", 60, (7, 20)), KEEPER, A1]
        zone = Zone(FIRM, records)
        one = Copy(zone)
        records.clear()
        zone.records().clear()
        one.zone().records().append(1)
        early = one.zone()
        self.assertEqual(len(one.zone().records()), 3)
        keeper = Keeper(zone)
        puts = [A2]
        keeper.change([], [], puts)
        one.follow(keeper)
        puts.clear()
        keeper.since(7)[0][3].clear()
        self.alike(one, keeper)
        self.assertEqual((len(early.records()), len(zone.records())), (3, 3))


class DrawnTest(CopyCase):
    def test_each_holds_what_the_keeper_had_at_its_version(self):
        draw = random.Random(11)
        words = {}
        for start in (0, 40, LAST - 12):
            keeper = keeper_at(start, A1)
            had = {start: keeper.zone().records()}
            copies = [Copy(keeper.zone())]
            for _ in range(200):
                step = draw.randrange(8)
                if step < 4:
                    here = [r for r in keeper.zone().records() if r[1] == "addr"]
                    fresh = [rec(draw.choice(["a.firm", "www.firm"]), "addr", k, 5) for k in draw.sample(range(30), 2)]
                    takes = draw.sample(here, min(len(here), draw.randrange(3)))
                    keeper.change([], takes, [r for r in fresh if r not in here])
                    had[keeper.version()] = keeper.zone().records()
                elif step == 4:
                    copies.append(Copy(keeper.zone()))
                else:
                    word = draw.choice(copies).follow(keeper)
                    words[word] = words.get(word, 0) + 1
                for one in copies:
                    self.assertTrue(same(one.zone().records(), had[one.version()]))
        self.assertEqual(sorted(words), ["all", "same", "steps"])


if __name__ == "__main__":
    unittest.main()
