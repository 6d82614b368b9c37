"""Promises [1] and [17]: the house."""

import copy
import unittest

from namehouse.errors import BadChange, BadName, BadRecord, BadTurn, BadZone
from namehouse.house import House
from namehouse.letters import letter_of, row_of
from namehouse.telling import answer_of
from namehouse.zones import Zone
from tests.housethings import COM, COPY, FIRM, ROOT, ROOTS, com_zone, firm_zone, go, house, root_zone
from tests.test_memory import NO_KINDS, NO_NAMES
from tests.things import Agreeing, odd_things, same
from tests.zonethings import at, rec

WWW = [rec("www.firm", "addr", 7, 6), rec("www.firm", "addr", 8, 6)]
NO_ADDRS = odd_things() + [0, 4, 10, -1, 2 ** 64, 10 ** 30, True, False, 1.0, "1", (1,), [1], Agreeing()]


class HouseCase(unittest.TestCase):
    def booked(self, one, *letters):
        """The book has these letters: (turn, from, to, way, name's text, kind, outcome)."""
        found = [(turn, sender, to) + letter_of(row)[1:5] for turn, sender, to, row in one.book()]
        wanted = [letter[:4] + (at(letter[4]),) + letter[5:] for letter in letters]
        self.assertEqual(found, wanted)

    def asked(self, one, name, kind, *end, turns=40):
        """An asking ends so."""
        self.assertIsNone(one.ask(at(name), kind))
        go(one, turns)
        self.assertTrue(same(one.end(), end), (one.end(), end))

    def refused(self, error, act, *things):
        with self.assertRaises(error, msg=repr(things)) as caught:
            act(*things)
        self.assertIs(type(caught.exception), error)


class AskTest(HouseCase):
    def test_from_the_root_down(self):
        one = house()
        self.assertIsNone(one.end())
        self.assertTrue(same((one.turn(), one.sent(), one.book()), (0, 0, [])))
        self.assertIsNone(one.ask(at("www.firm"), "addr"))
        for turn in range(1, 5):
            self.assertIsNone(one.end())
            self.assertIsNone(one.go())
            self.assertTrue(same(one.turn(), turn))
        self.assertTrue(same(one.end(), ("good", WWW)))
        self.assertTrue(same(one.sent(), 2))
        self.booked(one, (0, 0, ROOT, "ask", "www.firm", "addr", "good"), (1, ROOT, 0, "answer", "www.firm", "addr", "handed"),
                    (2, 0, FIRM, "ask", "www.firm", "addr", "good"), (3, FIRM, 0, "answer", "www.firm", "addr", "good"))
        ask, answer = one.book()[2][3], one.book()[3][3]
        self.assertTrue(same(ask, row_of((1, "ask", at("www.firm"), "addr", "good", [], [], []))))
        self.assertTrue(same(answer, row_of(answer_of(firm_zone(), letter_of(ask)))))

    def test_what_is_kept_is_asked_no_more(self):
        one = house()
        self.asked(one, "www.firm", "addr", "good", WWW)
        one.go()
        self.asked(one, "www.firm", "addr", "good", [r[:2] + (5,) + r[3:] for r in WWW], turns=0)
        self.assertEqual(one.sent(), 0)
        for _ in range(5):
            one.go()
        self.asked(one, "www.firm", "addr", "good", WWW)
        self.assertEqual((one.sent(), one.turn()), (1, 12))
        self.asked(one, "b.firm", "addr", "lacking")
        self.asked(one, "www.firm", "text", "empty")

    def test_over_zones(self):
        one = house()
        self.asked(one, "o.firm", "text", "good", [rec("o.firm", "other", "w.com", 9), rec("w.com", "text", "w", 5)])
        # Behind the other it asks at the root anew.
        self.assertEqual([to for _, sender, to, _ in one.book() if sender == 0], [ROOT, FIRM, ROOT, COM])
        self.asked(one, "ring.firm", "addr", "fault", "ring")
        # The root's own keepers of com are kept, and end it.
        one.ask(at("com"), "keeper")
        self.assertEqual([r[3] for r in one.end()[1]], [at("ns.com"), at("ns.firm")])
        self.asked(house(), "com", "keeper", "good", [rec("com", "keeper", "ns.com", 30)])

    def test_a_keeper_that_isnt_one(self):
        one = House([(ROOT, root_zone()), (FIRM, firm_zone())], ROOTS)
        # At com's addr there is none: its letter is given up; the other keeper doesn't know com.
        self.asked(one, "w.com", "text", "fault", "dead")
        self.booked(one, (0, 0, ROOT, "ask", "w.com", "text", "good"), (1, ROOT, 0, "answer", "w.com", "text", "handed"),
                    (2, 0, COM, "ask", "w.com", "text", "good"), (5, 0, FIRM, "ask", "w.com", "text", "good"),
                    (6, FIRM, 0, "answer", "w.com", "text", "refused"))
        self.assertEqual(one.turn(), 7)

    def test_without_zones(self):
        one = House([], ROOTS)
        self.asked(one, "a", "addr", "fault", "dead")
        self.assertEqual((one.turn(), one.sent()), (3, 1))

    def test_the_asker_at_its_own_addr(self):
        one = House([(ROOT, root_zone())], [(at("a"), 0), (at("r"), ROOT)])
        self.asked(one, "r", "addr", "good", [rec("r", "addr", ROOT, 50)])
        self.assertEqual(one.turn(), 5)
        self.booked(one, (0, 0, 0, "ask", "r", "addr", "good"), (3, 0, ROOT, "ask", "r", "addr", "good"), (4, ROOT, 0, "answer", "r", "addr", "good"))

    def test_a_new_asking_gives_up_the_one_that_goes_on(self):
        one = house()
        one.ask(at("www.firm"), "addr")
        one.go()
        self.asked(one, "b", "addr", "lacking")
        self.assertEqual((one.turn(), one.sent()), (3, 1))
        self.assertEqual(len(one.book()), 4)


class RoadTest(HouseCase):
    def test_later(self):
        for late in range(1, 10):
            one = house([late])
            self.asked(one, "r", "addr", "fault", "dead")
            self.assertEqual(one.turn(), 3)
            for _ in range(10):
                one.go()
            # It is answered all the same, though none hears it.
            self.booked(one, (0, 0, ROOT, "ask", "r", "addr", "good"), (1 + late, ROOT, 0, "answer", "r", "addr", "good"))
            self.assertEqual(one.end(), ("fault", "dead"))

    def test_the_asker_hears_and_then_looks_at_its_clock(self):
        # The answer comes three turns behind the sending.
        for row, wanted in [([1, 0], ("good", [rec("r", "addr", ROOT, 50)])), ([0, 1], ("good", [rec("r", "addr", ROOT, 50)])), ([1, 1], ("fault", "dead"))]:
            one = house(row)
            self.asked(one, "r", "addr", *wanted)
            self.assertEqual(one.turn(), 3)

    def test_an_answer_that_comes_too_late(self):
        one = House([(ROOT, root_zone())], [(at("r"), ROOT), (at("s"), ROOT)], [2, 0, 0, 0])
        self.asked(one, "r", "addr", "good", [rec("r", "addr", ROOT, 50)])
        # The first ask is answered at 3, the second one at 4; at 4 the first answer is let go.
        self.booked(one, (0, 0, ROOT, "ask", "r", "addr", "good"), (3, ROOT, 0, "answer", "r", "addr", "good"),
                    (3, 0, ROOT, "ask", "r", "addr", "good"), (4, ROOT, 0, "answer", "r", "addr", "good"))
        self.assertEqual(one.turn(), 5)
        self.assertEqual([letter_of(row)[0] for _, _, _, row in one.book()], [0, 0, 1, 1])

    def test_never(self):
        one = House([(ROOT, root_zone())], [(at("r"), ROOT), (at("s"), ROOT)], [10, 0, 0])
        self.asked(one, "r", "addr", "good", [rec("r", "addr", ROOT, 50)])
        self.assertEqual((one.turn(), one.sent(), len(one.book())), (5, 2, 3))
        one = house([10])
        self.asked(one, "r", "addr", "fault", "dead")

    def test_twice(self):
        one = House([(ROOT, root_zone())], ROOTS, [11, 0, 0])
        one.ask(at("r"), "addr")
        for _ in range(6):
            one.go()
        # Both are answered; the second answer is let go.
        self.booked(one, (0, 0, ROOT, "ask", "r", "addr", "good"), (1, ROOT, 0, "answer", "r", "addr", "good"), (2, ROOT, 0, "answer", "r", "addr", "good"))
        self.assertTrue(same(one.end(), ("good", [rec("r", "addr", ROOT, 50)])))

    def test_letters_come_in_the_order_in_which_they_were_sent(self):
        # The ask of turn 0 comes at 3 with the one of turn 2.
        one = House([(ROOT, root_zone())], ROOTS, [2, 0, 0, 0])
        one.ask(at("a"), "addr")
        one.go()
        one.go()
        one.ask(at("b"), "addr")
        one.go()
        self.booked(one, (0, 0, ROOT, "ask", "a", "addr", "good"), (2, 0, ROOT, "ask", "b", "addr", "good"),
                    (3, ROOT, 0, "answer", "a", "addr", "lacking"), (3, ROOT, 0, "answer", "b", "addr", "lacking"))

    def test_a_copy_set_up_while_a_letter_is_under_way(self):
        one = House([(ROOT, root_zone())], [(at("r"), COPY)])
        one.ask(at("r"), "addr")
        one.copy(COPY, ROOT)
        go(one)
        self.assertEqual(one.end(), ("good", [rec("r", "addr", ROOT, 50)]))


class SleepTest(HouseCase):
    def test_asleep_and_awake(self):
        one = house()
        self.assertIsNone(one.sleep(FIRM))
        self.asked(one, "www.firm", "addr", "fault", "dead")
        self.assertEqual((one.turn(), one.sent()), (5, 2))
        self.assertIsNone(one.wake(FIRM))
        self.asked(one, "www.firm", "addr", "good", WWW)

    def test_it_hears_nothing_later_either(self):
        one = house([3, 0])
        one.sleep(ROOT)
        one.ask(at("r"), "addr")
        for _ in range(3):
            one.go()
        one.wake(ROOT)
        one.go()
        self.assertEqual(len(one.book()), 2)
        one = house()
        one.sleep(ROOT)
        one.ask(at("r"), "addr")
        one.go()
        one.wake(ROOT)
        for _ in range(5):
            one.go()
        self.assertEqual((one.end(), len(one.book())), (("fault", "dead"), 1))

    def test_twice_the_same(self):
        one = house()
        for _ in range(2):
            self.assertIsNone(one.wake(ROOT))
        for _ in range(2):
            self.assertIsNone(one.sleep(ROOT))
        self.assertIsNone(one.wake(ROOT))
        self.asked(one, "r", "addr", "good", [rec("r", "addr", ROOT, 50)])

    def test_a_copy(self):
        one = House([(ROOT, root_zone())], [(at("r"), COPY)])
        one.copy(COPY, ROOT)
        one.sleep(COPY)
        self.asked(one, "r", "addr", "fault", "dead")
        one.wake(COPY)
        one.sleep(ROOT)
        self.asked(one, "r", "addr", "good", [rec("r", "addr", ROOT, 50)])

    def test_asleep_it_is_changed_and_followed_all_the_same(self):
        one = house()
        one.copy(COPY, ROOT)
        one.sleep(ROOT)
        one.sleep(COPY)
        self.assertIs(one.change(ROOT, [], [], [rec("z", "addr", 1)]), True)
        self.assertEqual(one.follow(COPY), "steps")
        self.assertTrue(same(one.zone(COPY).records(), one.zone(ROOT).records()))


class HeldTest(HouseCase):
    def test_zones(self):
        one = house()
        for addr, zone in ((ROOT, root_zone()), (FIRM, firm_zone()), (COM, com_zone())):
            self.assertIsInstance(one.zone(addr), Zone)
            self.assertTrue(same((one.zone(addr).origin, one.zone(addr).records()), (zone.origin, zone.records())))

    def test_change(self):
        one = house()
        new = rec("n.firm", "text", "x")
        self.assertIs(one.change(FIRM, [("lacks", at("n.firm"), "text")], [], [new]), True)
        self.assertIs(one.change(FIRM, [("lacks", at("n.firm"), "text")], [], [new]), False)
        self.refused(BadChange, one.change, FIRM, [], [], [new])
        self.refused(BadChange, one.change, FIRM, [], [rec("m.firm", "text", "x")], [])
        self.refused(BadChange, one.change, FIRM, None, [], [])
        self.assertTrue(same(one.zone(FIRM).records(), Zone(at("firm"), [
            r if r[1] != "top" else r[:3] + ((6, 3),) for r in firm_zone(new).records()]).records()))
        self.asked(one, "n.firm", "text", "good", [new])
        self.assertTrue(same(one.zone(COM).records(), com_zone().records()))

    def test_copy_and_follow(self):
        one = house()
        self.assertIsNone(one.copy(COPY, FIRM))
        self.assertTrue(same(one.follow(COPY), "same"))
        one.change(FIRM, [], [], [rec("n.firm", "text", "x")])
        early = one.zone(COPY).records()
        self.assertTrue(same(early, firm_zone().records()))
        self.assertIsNone(one.copy(COPY + 1, FIRM))
        self.assertEqual((one.follow(COPY + 1), one.follow(COPY), one.follow(COPY)), ("same", "steps", "same"))
        for k in range(6):
            one.change(FIRM, [], [], [rec("m.firm", "addr", k)])
        self.assertEqual((one.follow(COPY), one.follow(COPY)), ("all", "same"))
        for addr in (COPY, FIRM):
            self.assertTrue(same(one.zone(addr).records(), one.zone(FIRM).records()))
        one.copy(2 ** 64 - 1, ROOT)
        self.assertEqual(one.zone(2 ** 64 - 1).origin, ())

    def test_a_copy_answers_what_it_holds(self):
        one = House([(ROOT, root_zone())], [(at("r"), COPY)])
        one.copy(COPY, ROOT)
        one.change(ROOT, [], [], [rec("z", "text", "x")])
        self.asked(one, "z", "text", "lacking")
        one.follow(COPY)
        for _ in range(4):
            one.go()
        self.asked(one, "z", "text", "good", [rec("z", "text", "x")])
        self.assertTrue(all(ROOT not in letter[1:3] for letter in one.book()))

    def test_at_addrs_where_no_such_one_is(self):
        one = house()
        one.copy(COPY, FIRM)
        acts = [lambda addr: one.zone(addr), lambda addr: one.sleep(addr), lambda addr: one.wake(addr), lambda addr: one.follow(addr),
                lambda addr: one.change(addr, [], [], []), lambda addr: one.copy(11, addr)]
        for addr in NO_ADDRS:
            if type(addr) is int and addr in (ROOT, FIRM, COM):
                continue
            for act in acts:
                self.refused(BadChange, act, addr)
        # A copy is no keeper, a keeper no copy.
        self.refused(BadChange, one.change, COPY, [], [], [])
        self.refused(BadChange, one.copy, 11, COPY)
        self.refused(BadChange, one.zone, 11)
        for addr in (ROOT, FIRM, COM):
            self.refused(BadChange, one.follow, addr)
        self.assertTrue(same(one.zone(COPY).records(), firm_zone().records()))
        self.assertEqual((one.turn(), one.book()), (0, []))

    def test_at_addrs_where_one_is_already_or_none_may_be(self):
        one = house()
        one.copy(COPY, FIRM)
        one.change(FIRM, [], [], [])
        for addr in (ROOT, FIRM, COM, COPY, 0, -1, 2 ** 64, True, "1", 1.0, None, [11], (11,), Agreeing()):
            for of in (ROOT, FIRM, COPY, 77, None):
                self.refused(BadChange, one.copy, addr, of)
        self.assertEqual(one.zone(COPY).records(), firm_zone().records())
        self.assertEqual(one.zone(ROOT).origin, ())
        self.refused(BadChange, one.zone, 0)


class OwnTest(HouseCase):
    def test_lists_may_be_changed(self):
        zones, roots, road = [(ROOT, root_zone()), (FIRM, firm_zone())], list(ROOTS), [0, 0]
        kept = [zones[0][1].records(), list(roots), list(road)]
        one = House(zones, roots, road)
        self.assertTrue(same([zones[0][1].records(), roots, road], kept))
        zones.clear()
        roots.clear()
        road[0] = 10
        one.ask(at("www.firm"), "addr")
        early = one.book()
        one.book()[0][3].clear()
        one.book().clear()
        go(one)
        self.assertTrue(same(one.end(), ("good", WWW)))
        self.assertEqual(len(early), 1)
        one.end()[1].clear()
        one.zone(ROOT).records().clear()
        self.assertTrue(same(one.end(), ("good", WWW)))
        self.assertEqual([len(letter[3]) > 9 for letter in one.book()], [True] * 4)
        told = one.book()
        kept = copy.deepcopy(told)
        for _ in range(9):
            one.go()
        one.ask(at("b"), "addr")
        self.assertTrue(same(told, kept))
        puts = [rec("n.firm", "text", "x")]
        zone = one.zone(FIRM)
        one.change(FIRM, [], [], puts)
        puts.clear()
        self.assertEqual((len(one.zone(FIRM).records()), len(zone.records())), (9, 8))

    def test_two_houses(self):
        zone = root_zone()
        first, second = House([(ROOT, zone)], ROOTS), House([(ROOT, zone), (2, zone)], ROOTS)
        first.change(ROOT, [], [], [rec("z", "text", "x")])
        first.ask(at("z"), "text")
        first.go()
        self.assertTrue(same(second.zone(ROOT).records(), zone.records()))
        self.assertEqual((second.turn(), second.book(), second.end()), (0, [], None))
        second.change(2, [], [], [rec("y", "text", "x")])
        self.assertTrue(same(second.zone(ROOT).records(), zone.records()))


class RefusalTest(HouseCase):
    def test_zones(self):
        zone = root_zone()
        good = (1, zone)
        for thing in odd_things() + [(good,), {1: zone}, good, zone, iter([good]), [good, good], [good, (2, zone), (1, firm_zone())]]:
            if thing != []:
                self.refused(BadZone, House, thing, ROOTS)
                self.refused(BadZone, House, thing, None, None)
                self.refused(BadZone, House, thing, [], [20])
        for pair in odd_things() + [[1, zone], (1,), (1, zone, zone), (zone, 1), (0, zone), (-1, zone), (2 ** 64, zone), (True, zone), ("1", zone),
                                    (1.0, zone), (None, zone), (1, None), (1, zone.records()), (1, Zone), (1, Agreeing()), (Agreeing(), zone), ([1], zone)]:
            self.refused(BadZone, House, [pair], ROOTS)
            self.refused(BadZone, House, [(7, zone), pair], ROOTS)
        House([(2 ** 64 - 1, zone), (1, zone)], ROOTS)

    def test_roots_then_the_road(self):
        for thing in odd_things() + [[], (), None, "r", [(at("*"), 1)], [(at("r"), -1)], [[at("r"), 1]]]:
            self.refused(BadRecord, House, [], thing)
            self.refused(BadRecord, House, [(1, root_zone())], thing, [20])
        for road in [True, False, 0, "", (), (0,), {}, [20], [-1], [True], [None], [0] * 201, Agreeing(), "0", [[]]]:
            self.refused(BadTurn, House, [(1, root_zone())], ROOTS, road)
        House([], ROOTS, [])
        House([], ROOTS, [19] * 200)
        House([], ROOTS, None)

    def test_ask(self):
        one = house()
        for ahead in (False, True):
            if ahead:
                one.ask(at("www.firm"), "addr")
            for name in NO_NAMES:
                self.refused(BadName, one.ask, name, "addr")
                self.refused(BadName, one.ask, name, None)
            for kind in NO_KINDS:
                self.refused(BadRecord, one.ask, at("b"), kind)
            self.assertEqual((one.sent(), len(one.book()), one.end()), (int(ahead), int(ahead), None))
        go(one)
        self.assertTrue(same(one.end(), ("good", WWW)))
        self.assertEqual(one.turn(), 4)
        self.refused(BadName, one.ask, "b.", "addr")
        self.assertTrue(same(one.end(), ("good", WWW)))


if __name__ == "__main__":
    unittest.main()
