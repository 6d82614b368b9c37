"""Promises [1] and [13]: where an asker asks, what it follows, and how an asking ends."""

import copy
import unittest

from namehouse.asker import Asker
from namehouse.errors import BadName, BadRecord, BadTurn
from namehouse.letters import letter_of
from namehouse.memory import Memory
from namehouse.records import KINDS
from tests.askthings import ROOTS, AskCase, keep, place
from tests.test_memory import NO_KINDS, NO_NAMES, NO_TURNS
from tests.things import Agreeing, odd_things, same
from tests.zonethings import at, rec

ROOT_KEEPER = rec("", "keeper", "r", 100)


def others(first, many):
    """So many others from a name's text on: first -> o1 -> o2 .."""
    names = [first] + [f"o{k + 1}" for k in range(many)]
    return [rec(name, "other", data, 50) for name, data in zip(names, names[1:])]


class KeptTest(AskCase):
    def test_what_is_kept_ends_it_at_once(self):
        one = self.asker()
        keep(one, 0, rec("a", "addr", 2, 9), rec("a", "addr", 1, 9), rec("a", "text", "x", 3))
        one.memory().lack(at("a"), "key", 9, 0)
        one.memory().lack(at("b"), None, 9, 0)
        self.begins("a", "addr", 4)
        self.ends("good", [rec("a", "addr", 1, 5), rec("a", "addr", 2, 5)])
        self.begins("a", "key", 4)
        self.ends("empty",)
        for kind in KINDS:
            self.begins("b", kind, 4)
            self.ends("lacking",)
        self.begins("a", "text", 4, (1, "a", "text"))
        self.goes_on()

    def test_a_kept_other_is_followed(self):
        one = self.asker()
        keep(one, 0, rec("a", "other", "b", 9), rec("b", "other", "c", 7), rec("c", "addr", 1, 5))
        self.begins("a", "addr", 2)
        self.ends("good", [rec("a", "other", "b", 7), rec("b", "other", "c", 5), rec("c", "addr", 1, 3)])
        self.begins("a", "text", 2, (1, "c", "text"))
        self.goes_on()
        self.begins("a", "other", 2)
        self.ends("good", [rec("a", "other", "b", 7)])
        one.memory().lack(at("c"), "key", 5, 2)
        self.begins("a", "key", 2)
        self.ends("empty",)
        one.memory().lack(at("c"), None, 5, 2)
        self.begins("b", "trust", 2)
        self.ends("lacking",)
        one.memory().lack(at("b"), "other", 5, 2)
        self.begins("b", "other", 2)
        self.ends("empty",)

    def test_what_is_kept_of_the_kind_comes_ahead_of_the_other(self):
        one = self.asker()
        keep(one, 0, rec("a", "other", "b", 9), rec("a", "addr", 1, 9))
        one.memory().lack(at("a"), "key", 9, 0)
        self.begins("a", "addr", 0)
        self.ends("good", [rec("a", "addr", 1, 9)])
        self.begins("a", "key", 0)
        self.ends("empty",)

    def test_of_several_kept_others_the_first_in_order(self):
        one = self.asker()
        keep(one, 0, rec("a", "other", "a.c", 9), rec("a", "other", "b", 8), rec("a", "other", "b", 5), rec("b", "addr", 1, 4))
        self.begins("a", "addr", 1)
        self.ends("good", [rec("a", "other", "b", 4), rec("b", "addr", 1, 3)])

    def test_kept_rings(self):
        one = self.asker()
        keep(one, 0, rec("a", "other", "b", 9), rec("b", "other", "c", 9), rec("c", "other", "a", 9), rec("d", "other", "d", 9),
             rec("e", "other", "b", 9))
        for name in "abcde":
            self.begins(name, "addr", 0)
            self.ends("fault", "ring")
        self.begins("d", "other", 0)
        self.ends("good", [rec("d", "other", "d", 9)])

    def test_eight_kept_others_and_a_ninth(self):
        for many in (8, 9):
            one = self.asker()
            keep(one, 0, *others("a", many), rec(f"o{many}", "addr", 1, 9))
            self.begins("a", "addr", 0)
            if many == 8:
                self.ends("good", others("a", 8) + [rec("o8", "addr", 1, 9)])
            else:
                self.ends("fault", "many")

    def test_a_ring_comes_ahead_of_a_ninth(self):
        for last in ("a", "o3", "o8"):
            one = self.asker()
            keep(one, 0, *others("a", 8), rec("o8", "other", last, 9))
            self.begins("a", "addr", 0)
            self.ends("fault", "ring")

    def test_kept_no_more_in_the_midst_of_an_asking(self):
        one = self.asker()
        keep(one, 0, rec("a", "other", "b", 3))
        self.begins("a", "addr", 2, (1, "b", "addr"))
        # The other stands no more when the answer comes, but it was followed.
        self.sends(one.hear(1, self.answer("b", "addr", answers=[rec("b", "addr", 4)]), 3))
        self.ends("good", [rec("a", "other", "b", 1), rec("b", "addr", 4)])


class PlaceTest(AskCase):
    def test_the_roots_keepers(self):
        for kind in KINDS:
            for name in ("", "a", "www.firm", "*.firm", "a.b.c.d.e.f"):
                self.asker()
                self.begins(name, kind, 0, (1, name, kind))
                self.goes_on()

    def test_the_roots_by_name_then_addr(self):
        roots = [(at("b.c"), 1), (at("a.d"), 2), (at("z.b"), 5), (at("z.b"), 3), (at("z.b"), 5), ((), 9)]
        self.asker(roots)
        self.begins("www.firm", "addr", 0, (9, "www.firm", "addr"))
        for k, addr in enumerate([3, 5, 5, 1, 2]):
            self.sends(self.one.tick(3 * k + 3), (addr, "www.firm", "addr"))
        self.sends(self.one.tick(18))
        self.ends("fault", "dead")
        self.assertEqual(self.one.sent(), 6)

    def test_the_nearest_name_whose_keepers_are_kept(self):
        one = self.asker()
        places = [("", 10), ("firm", 11), ("b.firm", 12), ("a.b.firm", 13)]
        for name, addr in places:
            for kind in ("addr", "other", "keeper", "seal"):
                self.begins("a.b.firm", kind, 0, ((addr - 1 if addr > 10 else 1), "a.b.firm", kind))
            place(one, name, addr)
        for name, addr in [("x.a.b.firm", 13), ("a.b.firm", 13), ("b.firm", 12), ("x.b.firm", 12), ("c.firm", 11), ("firm", 11),
                           ("com", 10), ("", 10), ("x.a.b.c", 10), ("*.b.firm", 12)]:
            self.begins(name, "text", 0, (addr, name, "text"))

    def test_trust_is_asked_above_its_name(self):
        one = self.asker()
        for name, addr in [("", 10), ("firm", 11), ("b.firm", 12)]:
            self.begins("b.firm", "trust", 0, (addr - 1 if addr > 10 else 1, "b.firm", "trust"))
            place(one, name, addr)
        for name, addr in [("b.firm", 11), ("firm", 10), ("x.b.firm", 12), ("com", 10), ("", 10)]:
            self.begins(name, "trust", 0, (addr, name, "trust"))
            self.begins(name, "key", 0, ({"b.firm": 12, "firm": 11}.get(name, addr), name, "key"))

    def test_keepers_in_the_order_of_their_names_and_addrs_rising(self):
        one = self.asker()
        keep(one, 0, rec("firm", "keeper", "x.b", 50), rec("firm", "keeper", "a.c", 50), rec("firm", "keeper", "b", 50),
             rec("firm", "keeper", "b", 60), rec("firm", "keeper", "none", 50),
             rec("x.b", "addr", 7), rec("x.b", "addr", 3), rec("a.c", "addr", 9), rec("b", "addr", 8), rec("b", "addr", 7))
        self.begins("www.firm", "addr", 0, (7, "www.firm", "addr"))
        for k, addr in enumerate([8, 3, 7, 9]):
            self.sends(one.tick(3 * k + 3), (addr, "www.firm", "addr"))
        self.sends(one.tick(15))
        self.ends("fault", "dead")

    def test_one_addr_that_two_records_tell(self):
        one = self.asker()
        keep(one, 0, rec("firm", "keeper", "a", 50), rec("a", "addr", 7, 8), rec("a", "addr", 7, 9), rec("a", "addr", 8, 9))
        self.begins("firm", "addr", 0, (7, "firm", "addr"))
        self.sends(one.tick(3), (8, "firm", "addr"))
        self.sends(one.tick(6))
        self.ends("fault", "dead")

    def test_one_addr_of_two_keepers_is_asked_for_each(self):
        one = self.asker()
        keep(one, 0, rec("firm", "keeper", "a", 50), rec("firm", "keeper", "b", 50), rec("a", "addr", 7), rec("b", "addr", 7))
        self.begins("firm", "addr", 0, (7, "firm", "addr"))
        self.sends(one.tick(3), (7, "firm", "addr"))
        self.sends(one.tick(6))
        self.ends("fault", "dead")

    def test_names_without_an_addr_are_passed_by(self):
        one = self.asker()
        keep(one, 0, rec("b.firm", "keeper", "k.b.firm", 50), rec("firm", "keeper", "k.firm", 50), rec("k.firm", "addr", 8, 4))
        one.memory().lack(at("k.b.firm"), "addr", 9, 0)
        one.memory().lack(at("c.b.firm"), "keeper", 9, 0)
        self.begins("c.b.firm", "addr", 3, (8, "c.b.firm", "addr"))
        # The addr stands no more.
        self.begins("c.b.firm", "addr", 4, (1, "c.b.firm", "addr"))

    def test_the_keepers_kept_of_the_root_come_ahead_of_those_known(self):
        one = self.asker([(at("r"), 1), (at("s"), 2)])
        keep(one, 0, ROOT_KEEPER, rec("r", "addr", 5, 9))
        self.begins("firm", "addr", 0, (5, "firm", "addr"))
        self.sends(one.tick(3))
        self.ends("fault", "dead")
        self.begins("firm", "addr", 9, (1, "firm", "addr"))
        self.sends(one.tick(12), (2, "firm", "addr"))

    def test_they_are_taken_when_it_begins_to_ask_there(self):
        one = self.asker()
        keep(one, 0, rec("firm", "keeper", "a", 50), rec("a", "addr", 7, 50), rec("a", "addr", 8, 50))
        self.begins("firm", "addr", 0, (7, "firm", "addr"))
        keep(one, 1, rec("a", "addr", 9, 50))
        self.sends(one.tick(3), (8, "firm", "addr"))
        self.sends(one.tick(6))
        self.ends("fault", "dead")
        self.begins("firm", "addr", 6, (9, "firm", "addr"))


class LettersTest(AskCase):
    def test_given_up_three_turns_behind(self):
        one = self.asker([(at("r"), 1), (at("r"), 2), (at("s"), 3)])
        self.begins("a", "addr", 10, (1, "a", "addr"))
        for turn in (10, 11, 12, 12):
            self.sends(one.tick(turn))
            self.goes_on()
        self.sends(one.tick(13), (2, "a", "addr"))
        for turn in (13, 14, 15):
            self.sends(one.tick(turn))
        # Turns that were left out are turns, too; one letter is given up at once.
        self.sends(one.tick(30), (3, "a", "addr"))
        self.sends(one.tick(30))
        self.sends(one.tick(32))
        self.goes_on()
        self.sends(one.tick(33))
        self.ends("fault", "dead")
        self.assertEqual(one.sent(), 3)

    def test_answered_at_the_third_turn_and_behind(self):
        one = self.asker([(at("r"), 1), (at("r"), 2)])
        self.begins("a", "addr", 0, (1, "a", "addr"))
        late = self.answer("a", "addr", answers=[rec("a", "addr", 4)])
        self.sends(one.hear(1, late, 3))
        self.ends("good", [rec("a", "addr", 4)])
        self.begins("b", "addr", 3, (1, "b", "addr"))
        late = self.answer("b", "addr", answers=[rec("b", "addr", 4)])
        self.sends(one.tick(6), (2, "b", "addr"))
        self.sends(one.hear(1, late, 6))
        self.goes_on()
        self.assertIsNone(one.memory().find(at("b"), "addr", 6))

    def test_24_letters_and_one_more(self):
        for many in (24, 25):
            self.asker([(at("r"), k) for k in range(many)])
            self.begins("a", "addr", 0, (0, "a", "addr"))
            for k in range(1, 24):
                self.sends(self.one.tick(3 * k), (k, "a", "addr"))
            self.assertEqual(self.one.sent(), 24)
            self.goes_on()
            self.sends(self.one.tick(71))
            self.goes_on()
            self.sends(self.one.tick(72))
            self.ends("fault", "dead" if many == 24 else "many")
            self.assertEqual(self.one.sent(), 24)

    def test_24_letters_at_several_places(self):
        one = self.asker([(at("r"), k) for k in range(23)])
        self.begins("a.b", "addr", 0, (0, "a.b", "addr"))
        for k in range(1, 23):
            self.sends(one.tick(3 * k), (k, "a.b", "addr"))
        handed = self.answer("a.b", "addr", "handed", [], [rec("b", "keeper", "k.b")], [rec("k.b", "addr", 8), rec("k.b", "addr", 9)])
        self.sends(one.hear(22, handed, 67), (8, "a.b", "addr"))
        self.assertEqual(one.sent(), 24)
        # The 24th is heard; but none is sent for it.
        self.sends(one.hear(8, self.answer("a.b", "addr", "refused"), 68))
        self.ends("fault", "many")

    def test_the_24th_is_heard(self):
        one = self.asker([(at("r"), k) for k in range(30)])
        self.begins("a", "addr", 0, (0, "a", "addr"))
        for k in range(1, 24):
            self.sends(one.tick(3 * k), (k, "a", "addr"))
        self.sends(one.hear(23, self.answer("a", "addr", "lacking"), 70))
        self.ends("lacking",)

    def test_numbers_go_on_over_all_askings(self):
        one = self.asker([(at("r"), 1), (at("r"), 2)])
        self.begins("a", "addr", 0, (1, "a", "addr"))
        self.sends(one.tick(3), (2, "a", "addr"))
        self.begins("b", "addr", 4, (1, "b", "addr"))
        self.sends(one.hear(1, self.answer("b", "addr", "empty"), 5))
        self.begins("c", "text", 5, (1, "c", "text"))
        self.assertEqual(self.number, 4)

    def test_nought_behind_65535(self):
        one = self.asker()
        for _ in range(65535):
            told = one.begin(at("a"), "addr", 0)
            self.number += 1
        self.assertEqual(letter_of(told[0][1])[0], 65534)
        self.begins("a", "addr", 0, (1, "a", "addr"))
        self.begins("b", "addr", 0, (1, "b", "addr"))
        self.assertEqual(self.number, 65537)
        self.sends(one.hear(1, self.answer("b", "addr", "lacking"), 1))
        self.ends("lacking",)

    def test_an_asking_is_given_up_by_a_new_one(self):
        one = self.asker()
        self.begins("a", "addr", 0, (1, "a", "addr"))
        late = self.answer("a", "addr", answers=[rec("a", "addr", 4)])
        self.begins("a", "addr", 2, (1, "a", "addr"))
        self.sends(one.hear(1, late, 2))
        self.sends(one.tick(3))
        self.goes_on()
        self.kept(2, 0)
        self.sends(one.hear(1, self.answer("a", "addr", answers=[rec("a", "addr", 5)]), 4))
        self.ends("good", [rec("a", "addr", 5)])

    def test_ahead_of_all(self):
        one = self.asker()
        self.assertIsNone(one.end())
        self.assertTrue(same(one.sent(), 0))
        self.assertEqual(one.tick(0), [])
        self.assertEqual(one.hear(1, self.answer("a", "addr", "lacking", number=0), 0), [])
        self.assertIsNone(one.end())
        self.assertIsInstance(one.memory(), Memory)
        self.kept(0, 0)


class AnswerTest(AskCase):
    def asked(self, name="a.firm", kind="addr", roots=((("r",), 1), (("r",), 2))):
        one = self.asker(roots)
        self.begins(name, kind, 0, (1, name, kind))
        return one

    def hears(self, answer, *asks, turn=1, addr=1):
        """The answer is heard, then these are asked."""
        self.sends(self.one.hear(addr, answer, turn), *asks)

    def test_good(self):
        self.asked()
        self.hears(self.answer("a.firm", "addr", answers=[rec("a.firm", "addr", 9), rec("b.firm", "addr", 1), rec("a.firm", "text", "x"),
                                                          rec("a.firm", "addr", 3), rec("a.firm", "addr", 9)]))
        self.ends("good", [rec("a.firm", "addr", 3), rec("a.firm", "addr", 9)])
        self.assertEqual(self.one.sent(), 1)

    def test_good_of_lives_of_nought(self):
        self.asked()
        self.hears(self.answer("a.firm", "addr", answers=[rec("a.firm", "addr", 9, 0)]))
        self.ends("good", [rec("a.firm", "addr", 9, 0)])
        self.begins("a.firm", "addr", 1, (1, "a.firm", "addr"))

    def test_good_with_others(self):
        self.asked()
        chain = [rec("a.firm", "other", "b.firm", 9), rec("b.firm", "other", "x.com", 8)]
        self.hears(self.answer("a.firm", "addr", answers=[rec("x.com", "addr", 3)] + chain[::-1] + [rec("a.firm", "addr", 5)]))
        self.ends("good", chain + [rec("x.com", "addr", 3)])

    def test_good_for_other_follows_none(self):
        self.asked(kind="other")
        chain = [rec("a.firm", "other", "b.firm"), rec("b.firm", "other", "c.firm")]
        self.hears(self.answer("a.firm", "other", answers=chain))
        self.ends("good", chain[:1])

    def test_good_without_records_of_it_is_passed_over(self):
        for answers in ([], [rec("b.firm", "addr", 1)], [rec("a.firm", "text", "x")], [rec("b.firm", "other", "c.firm")]):
            self.asked()
            self.hears(self.answer("a.firm", "addr", answers=answers), (2, "a.firm", "addr"))
            self.goes_on()
            self.hears(self.answer("a.firm", "addr", answers=answers), turn=2, addr=2)
            self.ends("fault", "dead")

    def test_good_behind_an_other_is_looked_for_anew(self):
        self.asked()
        other = rec("a.firm", "other", "b.com", 9)
        self.hears(self.answer("a.firm", "addr", answers=[other]), (1, "b.com", "addr"))
        self.hears(self.answer("b.com", "addr", answers=[rec("b.com", "addr", 3)]), turn=2)
        self.ends("good", [other, rec("b.com", "addr", 3)])
        self.assertEqual(self.one.sent(), 2)

    def test_looked_for_anew_in_what_is_kept(self):
        one = self.asked()
        place(one, "com", 30)
        other = rec("a.firm", "other", "b.com", 9)
        keep(one, 0, rec("c.com", "other", "d.com", 7), rec("d.com", "addr", 8, 7))
        self.hears(self.answer("a.firm", "addr", answers=[other]), (30, "b.com", "addr"))
        self.hears(self.answer("b.com", "addr", answers=[rec("b.com", "other", "c.com", 9)]), turn=2, addr=30)
        self.ends("good", [other, rec("b.com", "other", "c.com", 9), rec("c.com", "other", "d.com", 5), rec("d.com", "addr", 8, 5)])

    def test_of_several_others_at_one_name_the_first_in_order(self):
        self.asked()
        several = [rec("a.firm", "other", "a.c", 9), rec("a.firm", "other", "b", 9), rec("a.firm", "other", "b", 8)]
        self.hears(self.answer("a.firm", "addr", answers=several + [rec("b", "addr", 3), rec("a.c", "addr", 2)]))
        self.ends("good", [several[2], rec("b", "addr", 3)])

    def test_rings_and_many_by_an_answer(self):
        for last, word in [("a.firm", "ring"), ("o4", "ring"), ("o7", "ring"), ("x", "many")]:
            self.asked()
            chain = others("a.firm", 8) + [rec("o8", "other", last, 50)]
            self.hears(self.answer("a.firm", "addr", answers=chain + [rec("x", "addr", 1)]))
            self.ends("fault", word)
        self.asked()
        self.hears(self.answer("a.firm", "addr", answers=others("a.firm", 8) + [rec("o8", "addr", 1)]))
        self.ends("good", others("a.firm", 8) + [rec("o8", "addr", 1)])

    def test_rings_and_many_over_what_is_kept_and_answers(self):
        for last, word in [("a.firm", "ring"), ("o2", "ring"), ("x", "many")]:
            one = self.asker()
            keep(one, 0, *others("a.firm", 3))
            self.begins("a.firm", "addr", 0, (1, "o3", "addr"))
            chain = others("a.firm", 8)
            self.hears(self.answer("o3", "addr", answers=chain[3:6]), (1, "o6", "addr"))
            self.hears(self.answer("o6", "addr", answers=chain[6:] + [rec("o8", "other", last, 50)]), turn=2)
            self.ends("fault", word)

    def test_empty_and_lacking(self):
        for outcome in ("empty", "lacking"):
            for answers in ([], [rec("b.firm", "addr", 1)], [rec("a.firm", "other", "b.com")], [rec("a.firm", "addr", 1)]):
                self.asked()
                self.hears(self.answer("a.firm", "addr", outcome, answers))
                self.ends(outcome)

    def test_refused_is_passed_over(self):
        self.asked()
        self.hears(self.answer("a.firm", "addr", "refused", [rec("a.firm", "addr", 1)], [rec("firm", "keeper", "k.firm")],
                               [rec("k.firm", "addr", 9)]), (2, "a.firm", "addr"))
        self.hears(self.answer("a.firm", "addr", "refused"), turn=2, addr=2)
        self.ends("fault", "dead")

    def test_refused_behind_an_other_is_looked_for_anew(self):
        self.asked()
        other = rec("a.firm", "other", "b.com")
        self.hears(self.answer("a.firm", "addr", "refused", [other]), (1, "b.com", "addr"))
        self.hears(self.answer("b.com", "addr", "refused"), (2, "b.com", "addr"), turn=2)
        self.hears(self.answer("b.com", "addr", "refused"), turn=3, addr=2)
        self.ends("fault", "dead")

    def test_only_those_below_the_place_count(self):
        one = self.asker()
        place(one, "firm", 20)
        keep(one, 0, rec("firm", "keeper", "l", 50), rec("firm", "keeper", "k.firm", 50), rec("l", "addr", 21, 50))
        self.begins("a.firm", "addr", 0, (20, "a.firm", "addr"))
        far = [rec("a.firm", "other", "b.com"), rec("b.com", "other", "c.com"), rec("b.com", "addr", 3)]
        self.hears(self.answer("a.firm", "addr", answers=far), (1, "b.com", "addr"), addr=20)
        self.begins("b.firm", "addr", 1, (20, "b.firm", "addr"))
        self.hears(self.answer("b.firm", "addr", answers=[rec("b.com", "addr", 3), rec("a.b.firm", "addr", 3)]), (21, "b.firm", "addr"), addr=20)
        self.hears(self.answer("b.firm", "addr", answers=[rec("firm", "addr", 3), rec("b.firm", "addr", 4)]), addr=21)
        self.ends("good", [rec("b.firm", "addr", 4)])


class HandedTest(AskCase):
    KEEPERS = [rec("firm", "keeper", "l.firm"), rec("firm", "keeper", "k.firm"), rec("firm", "keeper", "k.com")]

    def handed(self, keepers, beside=(), name="a.firm", kind="addr", answers=(), prepare=None):
        """An asking at the root that is handed on so; what it sends then."""
        one = self.asker([(at("r"), 1), (at("r"), 2)])
        if prepare:
            prepare(one)
        self.begins(name, kind, 0, (1, name, kind))
        return one.hear(1, self.answer(name, kind, "handed", list(answers), list(keepers), list(beside)), 1)

    def passed_over(self, keepers, beside=(), name="a.firm", kind="addr", many=0, prepare=None):
        self.sends(self.handed(keepers, beside, name, kind, prepare=prepare), (2, name, kind))
        self.goes_on()
        self.assertEqual(self.one.memory().many(1), many)

    def test_it_asks_there(self):
        beside = [rec("l.firm", "addr", 9), rec("k.com", "addr", 6), rec("k.firm", "addr", 8), rec("k.firm", "addr", 7), rec("m.firm", "addr", 5)]
        self.sends(self.handed(self.KEEPERS, beside), (6, "a.firm", "addr"))
        for k, addr in enumerate([7, 8, 9]):
            self.sends(self.one.tick(4 + 3 * k), (addr, "a.firm", "addr"))
        self.sends(self.one.tick(13))
        self.ends("fault", "dead")

    def test_each_keeper_once_and_each_addr(self):
        keepers = [rec("firm", "keeper", "k.firm", live) for live in (5, 6, 5)]
        beside = [rec("k.firm", "addr", 8, 5), rec("k.firm", "addr", 8, 6), rec("k.firm", "addr", 8, 5)]
        self.sends(self.handed(keepers, beside), (8, "a.firm", "addr"))
        self.sends(self.one.tick(4))
        self.ends("fault", "dead")

    def test_kept_addrs_where_none_is_told_beside(self):
        def prepare(one):
            keep(one, 0, rec("k.com", "addr", 60), rec("k.com", "addr", 50), rec("l.firm", "addr", 40), rec("k.firm", "addr", 30, 1))
        self.sends(self.handed(self.KEEPERS, [rec("l.firm", "addr", 9)], prepare=prepare), (50, "a.firm", "addr"))
        self.sends(self.one.tick(4), (60, "a.firm", "addr"))
        self.sends(self.one.tick(7), (9, "a.firm", "addr"))
        self.sends(self.one.tick(10))
        self.ends("fault", "dead")

    def test_addrs_among_the_answers_are_kept_ones(self):
        self.sends(self.handed(self.KEEPERS[1:2], answers=[rec("k.firm", "addr", 9)]), (9, "a.firm", "addr"))

    def test_no_addr_at_all(self):
        self.passed_over(self.KEEPERS)
        self.passed_over(self.KEEPERS, [rec("m.firm", "addr", 9), rec("k.firm", "text", "9")])
        self.passed_over(self.KEEPERS, prepare=lambda one: keep(one, 0, rec("k.firm", "addr", 9, 1)))

    def test_what_hands_on_nowhere(self):
        beside = [rec("k", "addr", 9), rec("k.firm", "addr", 9)]
        self.passed_over([], beside)
        self.passed_over([rec("firm", "keeper", "k"), rec("a.firm", "keeper", "k")], beside)
        self.passed_over([rec("firm", "keeper", "k"), rec("firm", "trust", 5)], beside)
        self.passed_over([rec("firm", "other", "k")], beside)
        self.passed_over([rec("firm", "keeper", "k"), rec("", "top", (1, 5))], beside)
        self.passed_over([rec("", "keeper", "k")], beside)
        self.passed_over([rec("com", "keeper", "k")], beside)
        self.passed_over([rec("b.firm", "keeper", "k")], beside)
        self.passed_over([rec("x.a.firm", "keeper", "k")], beside)
        self.passed_over([rec("*.firm", "keeper", "k")], beside)

    def test_at_the_name_come_to(self):
        beside = [rec("k", "addr", 9)]
        for kind in KINDS:
            if kind == "trust":
                self.passed_over([rec("a.firm", "keeper", "k")], beside, kind=kind)
                self.sends(self.handed([rec("firm", "keeper", "k")], beside, kind=kind), (9, "a.firm", kind))
            else:
                self.sends(self.handed([rec("a.firm", "keeper", "k")], beside, kind=kind), (9, "a.firm", kind))

    def test_not_to_the_place_itself_or_above(self):
        for keeper in ("firm", "", "b.firm", "com"):
            one = self.asker()
            place(one, "firm", 20)
            keep(one, 0, rec("l", "addr", 21, 50), rec("firm", "keeper", "k.firm", 50), rec("firm", "keeper", "l", 50))
            self.begins("a.firm", "addr", 0, (20, "a.firm", "addr"))
            answer = self.answer("a.firm", "addr", "handed", [], [rec(keeper, "keeper", "m.firm")], [rec("m.firm", "addr", 9)])
            self.sends(one.hear(20, answer, 1), (21, "a.firm", "addr"))

    def test_addrs_beside_that_arent_below_the_place(self):
        one = self.asker()
        place(one, "firm", 20)
        self.begins("x.a.firm", "addr", 0, (20, "x.a.firm", "addr"))
        keepers = [rec("a.firm", "keeper", "k.com"), rec("a.firm", "keeper", "l.firm")]
        answer = self.answer("x.a.firm", "addr", "handed", [], keepers, [rec("k.com", "addr", 8), rec("l.firm", "addr", 9)])
        self.sends(one.hear(20, answer, 1), (9, "x.a.firm", "addr"))
        self.sends(one.tick(4))
        self.ends("fault", "dead")
        self.assertIsNone(one.memory().find(at("k.com"), "addr", 1))

    def test_on_and_on(self):
        self.sends(self.handed([rec("f", "keeper", "k.f")], [rec("k.f", "addr", 9, 50)], name="a.b.c.d.e.f"), (9, "a.b.c.d.e.f", "addr"))
        for k, name in enumerate(["e.f", "d.e.f", "c.d.e.f", "b.c.d.e.f", "a.b.c.d.e.f"]):
            answer = self.answer("a.b.c.d.e.f", "addr", "handed", [], [rec(name, "keeper", "k.f")])
            self.sends(self.one.hear(9, answer, 2 + k), (9, "a.b.c.d.e.f", "addr"))
        # Here it can't be handed on any more.
        answer = self.answer("a.b.c.d.e.f", "addr", "handed", [], [rec("a.b.c.d.e.f", "keeper", "k.f")])
        self.sends(self.one.hear(9, answer, 7))
        self.ends("fault", "dead")

    def test_the_name_come_to_behind_others(self):
        other = rec("a.firm", "other", "b.com")
        told = self.handed([rec("com", "keeper", "k")], [rec("k", "addr", 9)], answers=[other])
        self.sends(told, (9, "b.com", "addr"))
        self.sends(self.one.hear(9, self.answer("b.com", "addr", answers=[rec("b.com", "addr", 3)]), 2))
        self.ends("good", [other, rec("b.com", "addr", 3)])

    def test_passed_over_behind_an_other(self):
        other = rec("a.firm", "other", "b.com", 9)
        for keepers in ([], [rec("firm", "keeper", "k")], [rec("com", "keeper", "l")]):
            told = self.handed(keepers, [rec("k", "addr", 9)], answers=[other])
            self.sends(told, (1, "b.com", "addr"))
            # What counts of its answers is kept, whatever its outcome.
            self.kept(1, 1, ("a.firm", "other", ("set", [other])), ("k", "addr", None))

    def test_what_is_looked_for_anew_may_be_kept(self):
        def prepare(one):
            keep(one, 0, rec("b.com", "addr", 4, 9))
        other = rec("a.firm", "other", "b.com", 9)
        self.sends(self.handed([], answers=[other], prepare=prepare))
        self.ends("good", [other, rec("b.com", "addr", 4, 8)])


class OwnTest(AskCase):
    def test_lists_may_be_changed(self):
        roots = [(at("r"), 1), (at("s"), 2)]
        one = self.asker()
        one = self.one = Asker(roots)
        roots.clear()
        told = one.begin(at("a"), "addr", 0)
        told[0][1].clear()
        told.clear()
        self.number = 1
        row = self.answer("a", "addr", "refused")
        kept = list(row)
        told = one.hear(1, row, 1)
        self.assertEqual(row, kept)
        self.sends(told, (2, "a", "addr"))
        told[0][1].clear()
        self.sends(one.hear(2, self.answer("a", "addr", answers=[rec("a", "addr", 4)]), 2))
        first = one.end()
        one.end()[1].clear()
        one.end()[1].append(1)
        self.ends("good", [rec("a", "addr", 4)])
        one.begin(at("b"), "addr", 3)
        self.assertTrue(same(first, ("good", [rec("a", "addr", 4)])))

    def test_its_memory_is_the_one_that_it_asks(self):
        one = self.asker()
        held = one.memory()
        held.lack(at("a"), None, 5, 0)
        self.begins("a", "addr", 1)
        self.ends("lacking",)
        self.begins("b", "addr", 1, (1, "b", "addr"))
        one.hear(1, self.answer("b", "addr", answers=[rec("b", "addr", 4)]), 2)
        self.assertTrue(same(held.find(at("b"), "addr", 2), ("set", [rec("b", "addr", 4)])))

    def test_two_askers(self):
        first, second = Asker(ROOTS), Asker(ROOTS)
        first.begin(at("a"), "addr", 0)
        self.assertIsNone(second.end())
        self.assertEqual((first.sent(), second.sent()), (1, 0))
        self.assertEqual(letter_of(second.begin(at("a"), "addr", 0)[0][1])[0], 0)


class RefusalTest(AskCase):
    def refused(self, error, act, *things):
        with self.assertRaises(error, msg=repr(things)) as caught:
            act(*things)
        self.assertIs(type(caught.exception), error)

    def test_roots(self):
        good = (at("r"), 1)
        for thing in odd_things() + [[], (), good, (good,), {good: 1}, "r", iter([good])]:
            self.refused(BadRecord, Asker, thing)
        for pair in odd_things() + [["r", 1], [at("r"), 1], (at("r"),), (at("r"), 1, 1), ("r.", 1), (at("*"), 1), (at("*.r"), 1), (["r"], 1),
                                    (1, at("r")), (at("r"), -1), (at("r"), 2 ** 64), (at("r"), True), (at("r"), "1"), (at("r"), 1.0),
                                    (at("r"), None), (at("r"), at("r")), (Agreeing(), 1), (at("r"), Agreeing()), ()]:
            self.refused(BadRecord, Asker, [pair])
            self.refused(BadRecord, Asker, [good, pair])
        roots = [(at("r"), 2 ** 64 - 1), ((), 0)]
        kept = copy.deepcopy(roots)
        self.asker(roots)
        self.assertTrue(same(roots, kept))
        self.begins("a", "addr", 0, (0, "a", "addr"))
        self.sends(self.one.tick(3), (2 ** 64 - 1, "a", "addr"))

    def test_what_is_refused_leaves_what_goes_on(self):
        one = self.asker([(at("r"), 1), (at("r"), 2)])
        for ahead in (False, True):
            if ahead:
                self.begins("a", "addr", 0, (1, "a", "addr"))
            for name in NO_NAMES:
                self.refused(BadName, one.begin, name, "addr", 1)
                self.refused(BadName, one.begin, name, "adr", None)
            for kind in NO_KINDS:
                self.refused(BadRecord, one.begin, at("b"), kind, 1)
                self.refused(BadRecord, one.begin, at("b"), kind, None)
            row = self.answer("a", "addr", "lacking", number=0)
            for turn in NO_TURNS:
                self.refused(BadTurn, one.begin, at("b"), "addr", turn)
                self.refused(BadTurn, one.hear, 1, row, turn)
                self.refused(BadTurn, one.hear, None, None, turn)
                self.refused(BadTurn, one.tick, turn)
            self.assertEqual(one.sent(), 1 if ahead else 0)
            self.assertIsNone(one.end())
            self.kept(1, 0)
        self.sends(one.tick(3), (2, "a", "addr"))
        self.sends(one.hear(2, self.answer("a", "addr", "lacking"), 3))
        self.ends("lacking",)
        for act, things in [(one.begin, (None, "addr", 1)), (one.tick, (None,)), (one.hear, (1, [], None))]:
            with self.assertRaises(ValueError):
                act(*things)
        self.ends("lacking",)
        self.assertEqual(one.sent(), 2)

    def test_late_turns(self):
        one = self.asker([(at("r"), 1), (at("r"), 2)])
        self.begins("a", "addr", 10 ** 3000, (1, "a", "addr"))
        self.sends(one.tick(10 ** 3000 + 2))
        self.sends(one.tick(10 ** 3000 + 3), (2, "a", "addr"))


if __name__ == "__main__":
    unittest.main()
