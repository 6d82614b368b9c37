"""Promises [1] and [14]: which answers are heard, and what is kept of them."""

import unittest

from namehouse.letters import row_of
from namehouse.records import KINDS, ordered
from tests.askthings import AskCase, keep, place
from tests.things import Agreeing, odd_things
from tests.zonethings import at, rec

GOOD = [rec("a.firm", "addr", 4, 9)]
TOP = rec("firm", "top", (3, 7))


class LetGoTest(AskCase):
    """Of what isn't the answer nothing comes."""

    def setUp(self):
        one = self.asker([(at("r"), 1), (at("r"), 2)])
        keep(one, 0, rec("b", "addr", 1, 50))
        self.begins("x", "addr", 0, (1, "x", "addr"))
        self.begins("a.firm", "addr", 0, (1, "a.firm", "addr"))

    def let_go(self, addr, row):
        kept = list(row) if isinstance(row, list) else None
        self.assertEqual(self.one.hear(addr, row, 1), [])
        if kept is not None:
            self.assertEqual(len(row), len(kept))
        self.goes_on()
        self.assertEqual(self.one.sent(), 1)
        self.kept(1, 1, ("a.firm", "addr", None), ("a.firm", "text", None), ("b", "addr", ("set", [rec("b", "addr", 1, 49)])))

    def tearDown(self):
        # What waits is still waited for, and given up in its time.
        self.sends(self.one.tick(2))
        self.sends(self.one.tick(3), (2, "a.firm", "addr"))
        self.sends(self.one.hear(2, self.answer("a.firm", "addr", answers=GOOD), 3))
        self.ends("good", GOOD)
        self.assertEqual(self.one.sent(), 2)

    def test_another_number(self):
        for number in (0, 2, 3, 257, 65535):
            self.let_go(1, self.answer("a.firm", "addr", answers=GOOD, number=number))
            self.let_go(1, self.answer("a.firm", "addr", "lacking", number=number))

    def test_another_name_or_kind(self):
        for name in ("b.firm", "firm", "x.a.firm", "*.firm", "", "a"):
            self.let_go(1, self.answer(name, "addr", "lacking"))
            self.let_go(1, self.answer(name, "addr", answers=GOOD))
        for kind in KINDS[1:]:
            self.let_go(1, self.answer("a.firm", kind, "lacking"))

    def test_another_addr_and_what_is_none(self):
        row = self.answer("a.firm", "addr", answers=GOOD)
        for addr in odd_things() + [0, 2, 3, 2 ** 64, -1, True, 1.0, "1", [1], (1,), None, Agreeing()]:
            if not (type(addr) is int and addr == 1):
                self.let_go(addr, row)

    def test_an_ask(self):
        self.let_go(1, row_of((1, "ask", at("a.firm"), "addr", "good", [], [], [])))

    def test_what_is_no_row(self):
        row = self.answer("a.firm", "addr", answers=GOOD)
        things = odd_things() + [[], "", row[:-1], row + [0], tuple(row), [1] + row, row[:-1] + [True], row[:-1] + [256], [row],
                                 bytes(row), iter(row), row + [0] * 2000, (1, "answer", at("a.firm"), "addr", "lacking", [], [], [])]
        for thing in things:
            self.let_go(1, thing)

    def test_an_answer_to_the_letter_before(self):
        self.let_go(1, self.answer("x", "addr", "lacking", number=0))
        self.let_go(1, self.answer("a.firm", "addr", "lacking", number=0))

    def test_an_answer_of_two(self):
        first = self.answer("a.firm", "addr", "refused")
        self.sends(self.one.hear(1, first, 1), (2, "a.firm", "addr"))
        self.assertEqual(self.one.hear(1, first, 1), [])
        self.assertEqual(self.one.hear(2, first, 1), [])
        self.goes_on()
        # For tearDown: as it was.
        self.begins("a.firm", "addr", 0, (1, "a.firm", "addr"))


class BehindTest(AskCase):
    def test_when_it_has_ended(self):
        one = self.asker()
        self.begins("a.firm", "addr", 0, (1, "a.firm", "addr"))
        row = self.answer("a.firm", "addr", answers=[rec("a.firm", "addr", 4, 2)])
        self.sends(one.hear(1, row, 1))
        self.sends(one.hear(1, row, 2))
        self.sends(one.hear(1, self.answer("a.firm", "addr", "lacking"), 2))
        self.ends("good", [rec("a.firm", "addr", 4, 2)])
        self.kept(2, 1, ("a.firm", "addr", ("set", [rec("a.firm", "addr", 4, 1)])))


class KeptCase(AskCase):
    def heard(self, row_parts, turn=1, name="a.firm", kind="addr", prepare=None):
        """An asking at two keepers of the root, and an answer to it."""
        one = self.asker([(at("r"), 1), (at("r"), 2)])
        if prepare:
            prepare(one)
        self.number += len(one.begin(at(name), kind, 0))
        return one.hear(1, self.answer(name, kind, *row_parts), turn)


class GoodTest(KeptCase):
    def test_each_set(self):
        sets = [[rec("a.firm", "addr", 4, 9), rec("a.firm", "addr", 5, 7)], [rec("a.firm", "text", "x", 3)], [rec("b", "key", 3, 2)],
                [rec("a.firm", "seal", ("addr", 1, 2), 6), rec("a.firm", "seal", ("text", 1, 2), 8)], [rec("", "top", (1, 2), 5)]]
        answers = [record for records in sets for record in records]
        self.sends(self.heard(("good", answers[::-1])))
        self.kept(1, 5, *[(".".join(s[0][0]), s[0][1], ("set", ordered(s))) for s in sets])
        self.kept(3, 4, ("b", "key", None))

    def test_records_told_twice(self):
        one, other = rec("a.firm", "addr", 4, 9), rec("a.firm", "addr", 4, 8)
        self.sends(self.heard(("good", [one, other, one, one])))
        self.ends("good", [other, one])
        self.kept(1, 1, ("a.firm", "addr", ("set", [other, one])))

    def test_at_the_turn_at_which_it_is_heard(self):
        self.sends(self.heard(("good", GOOD), turn=2))
        self.kept(2, 1, ("a.firm", "addr", ("set", GOOD)))
        self.kept(10, 1, ("a.firm", "addr", ("set", [rec("a.firm", "addr", 4, 1)])))
        self.kept(11, 0)

    def test_in_place_of_what_was_kept(self):
        def prepare(one):
            keep(one, 0, rec("b", "addr", 1, 50))
            one.memory().lack(at("a.firm"), "text", 50, 0)
            one.memory().lack(at("c"), None, 50, 0)
        answers = GOOD + [rec("b", "addr", 2, 3), rec("c", "text", "x", 0), rec("a.firm", "text", "y", 0)]
        self.sends(self.heard(("good", answers), prepare=prepare))
        self.kept(1, 2, ("b", "addr", ("set", [rec("b", "addr", 2, 3)])), ("c", "addr", None), ("a.firm", "text", None))

    def test_beyond_the_place(self):
        one = self.asker()
        place(one, "firm", 20)
        self.begins("a.firm", "addr", 0, (20, "a.firm", "addr"))
        answers = GOOD + [rec("firm", "text", "x", 9), rec("b.firm", "text", "x", 9), rec("com", "text", "x", 9), rec("", "text", "x", 9)]
        self.sends(one.hear(20, self.answer("a.firm", "addr", answers=answers), 1))
        self.kept(1, 5, ("com", "text", None), ("", "text", None), ("firm", "text", ("set", [rec("firm", "text", "x", 9)])))

    def test_its_keepers_and_beside_are_not(self):
        self.sends(self.heard(("good", GOOD, [rec("firm", "keeper", "k"), TOP], [rec("k", "addr", 9)])))
        self.kept(1, 1)

    def test_where_it_is_passed_over(self):
        for outcome in ("good", "refused"):
            told = self.heard((outcome, [rec("b.firm", "addr", 4, 9)], [TOP, rec("firm", "keeper", "k")], [rec("k", "addr", 9)]))
            self.sends(told, (2, "a.firm", "addr"))
            self.kept(1, 1, ("b.firm", "addr", ("set", [rec("b.firm", "addr", 4, 9)])))

    def test_where_its_others_end_it(self):
        ring = [rec("a.firm", "other", "b", 9), rec("b", "other", "a.firm", 9)]
        for outcome in ("good", "empty", "lacking", "handed", "refused"):
            told = self.heard((outcome, ring + [rec("c", "text", "x", 9)], [rec("firm", "keeper", "k", 9), TOP], [rec("k", "addr", 9, 9)]))
            self.sends(told)
            self.ends("fault", "ring")
            self.kept(1, 3, ("a.firm", "other", ("set", ring[:1])), ("c", "text", ("set", [rec("c", "text", "x", 9)])),
                      ("firm", "keeper", None), ("k", "addr", None))

    def test_all_is_kept_ahead_of_going_on(self):
        def prepare(one):
            keep(one, 0, rec("b", "other", "c", 50), rec("d", "addr", 3, 50))
        # What is come to is looked for in what is kept now.
        answers = [rec("a.firm", "other", "b", 9), rec("c", "other", "d", 9)]
        told = self.heard(("good", answers), prepare=prepare)
        self.sends(told)
        self.ends("good", [answers[0], rec("b", "other", "c", 49), answers[1], rec("d", "addr", 3, 49)])


class NoneTest(KeptCase):
    def test_empty(self):
        self.sends(self.heard(("empty", [], [TOP])))
        self.kept(1, 1, ("a.firm", "addr", ("empty",)), ("a.firm", "text", None))
        self.kept(7, 1)
        self.kept(8, 0)
        self.begins("a.firm", "addr", 7)
        self.ends("empty",)

    def test_lacking(self):
        def prepare(one):
            keep(one, 0, rec("a.firm", "text", "x", 50), rec("x.a.firm", "text", "x", 50))
        self.sends(self.heard(("lacking", [], [TOP]), prepare=prepare))
        self.kept(1, 2, ("a.firm", "addr", ("lacking",)), ("a.firm", "text", ("lacking",)), ("x.a.firm", "addr", None))
        self.kept(8, 1)

    def test_the_first_top_below_the_place(self):
        for outcome in ("empty", "lacking"):
            one = self.asker()
            place(one, "firm", 20)
            self.begins("a.firm", "addr", 0, (20, "a.firm", "addr"))
            keepers = [rec("firm", "keeper", "k"), rec("com", "top", (1, 3)), rec("", "top", (1, 2)), rec("b.firm", "top", (1, 5), 1),
                       rec("firm", "top", (1, 9))]
            self.sends(one.hear(20, self.answer("a.firm", "addr", outcome, [], keepers), 1))
            self.kept(5, 3, ("a.firm", "addr", (outcome,)))
            self.kept(6, 2)

    def test_without_a_top_that_counts(self):
        for outcome in ("empty", "lacking"):
            for keepers in ([], [rec("firm", "keeper", "k")], [rec("firm", "top", (1, 0))], [rec("com", "top", (1, 9))]):
                one = self.asker()
                place(one, "firm", 20)
                self.begins("a.firm", "addr", 0, (20, "a.firm", "addr"))
                # Told beside, a top isn't heeded.
                row = self.answer("a.firm", "addr", outcome, [], keepers, [TOP])
                self.sends(one.hear(20, row, 1))
                self.ends(outcome)
                self.kept(1, 2, ("a.firm", "addr", None))

    def test_none_for_no_turns_lets_go_what_was_kept(self):
        def prepare(one):
            keep(one, 0, rec("a.firm", "text", "x", 50), rec("a.firm", "key", 3, 50))
        self.heard(("empty",), prepare=prepare)
        self.kept(1, 2)
        self.heard(("lacking",), prepare=prepare)
        self.kept(1, 0)

    def test_of_the_name_come_to(self):
        other = rec("a.firm", "other", "b.com", 9)
        self.heard(("empty", [other], [TOP]))
        self.ends("empty",)
        self.kept(1, 2, ("a.firm", "other", ("set", [other])), ("a.firm", "addr", None), ("b.com", "addr", ("empty",)), ("b.com", "text", None))
        self.heard(("lacking", [other], [TOP]))
        self.ends("lacking",)
        self.kept(1, 2, ("a.firm", "other", ("set", [other])), ("b.com", "addr", ("lacking",)), ("b.com", "text", ("lacking",)))

    def test_in_place_of_its_own_answers(self):
        for outcome in ("empty", "lacking"):
            self.heard((outcome, GOOD + [rec("a.firm", "text", "x", 9)], [TOP]))
            self.ends(outcome)
            text = ("lacking",) if outcome == "lacking" else ("set", [rec("a.firm", "text", "x", 9)])
            self.kept(1, 1 if outcome == "lacking" else 2, ("a.firm", "addr", (outcome,)), ("a.firm", "text", text))


class HandedTest(KeptCase):
    def test_its_keepers_and_their_addrs(self):
        keepers = [rec("firm", "keeper", "l.firm", 9), rec("firm", "keeper", "k", 9), rec("firm", "keeper", "l.firm", 9)]
        beside = [rec("k", "addr", 9, 5), rec("l.firm", "addr", 8, 4), rec("k", "addr", 7, 5), rec("k", "addr", 9, 5), rec("m", "addr", 6),
                  rec("firm", "addr", 5), rec("k", "text", "x"), rec("l.firm", "trust", 8)]
        self.sends(self.heard(("handed", [], keepers, beside)), (8, "a.firm", "addr"))
        self.kept(1, 3, ("firm", "keeper", ("set", keepers[:2])), ("k", "addr", ("set", [rec("k", "addr", 7, 5), rec("k", "addr", 9, 5)])),
                  ("l.firm", "addr", ("set", [rec("l.firm", "addr", 8, 4)])), ("m", "addr", None), ("k", "text", None))
        # They serve for other names.
        self.begins("b.firm", "text", 1, (8, "b.firm", "text"))

    def test_lives_of_nought_serve_this_asking_alone(self):
        self.sends(self.heard(("handed", [], [rec("firm", "keeper", "k", 0)], [rec("k", "addr", 9, 0)])), (9, "a.firm", "addr"))
        self.kept(1, 0)
        self.begins("a.firm", "addr", 1, (1, "a.firm", "addr"))

    def test_addrs_beyond_the_place(self):
        one = self.asker()
        place(one, "firm", 20)
        self.begins("x.a.firm", "addr", 0, (20, "x.a.firm", "addr"))
        keepers = [rec("a.firm", "keeper", "k.com", 9), rec("a.firm", "keeper", "l.firm", 9)]
        beside = [rec("k.com", "addr", 9, 5), rec("l.firm", "addr", 8, 5)]
        self.sends(one.hear(20, self.answer("x.a.firm", "addr", "handed", [], keepers, beside), 1), (8, "x.a.firm", "addr"))
        self.kept(1, 4, ("a.firm", "keeper", ("set", keepers)), ("k.com", "addr", None), ("l.firm", "addr", ("set", beside[1:])))

    def test_passed_over(self):
        for keepers in ([rec("com", "keeper", "k", 9)], [rec("firm", "keeper", "l", 9)], [rec("firm", "keeper", "k", 9), TOP]):
            told = self.heard(("handed", [], keepers, [rec("k", "addr", 9, 9)]))
            self.sends(told, (2, "a.firm", "addr"))
            self.kept(1, 0)

    def test_its_answers(self):
        # Kept whatever the outcome, gone on with or passed over.
        for keeper, addr in (("firm", 9), ("com", 2)):
            answers = [rec("b.firm", "text", "x", 9)]
            told = self.heard(("handed", answers, [rec(keeper, "keeper", "k", 9)], [rec("k", "addr", 9, 9)]))
            self.sends(told, (addr, "a.firm", "addr"))
            self.kept(1, 3 if addr == 9 else 1, ("b.firm", "text", ("set", answers)))

    def test_a_whole_way(self):
        one = self.asker()
        self.begins("www.firm", "addr", 0, (1, "www.firm", "addr"))
        root = self.answer("www.firm", "addr", "handed", [], [rec("firm", "keeper", "k.firm", 60)], [rec("k.firm", "addr", 9, 60)])
        self.sends(one.hear(1, root, 2), (9, "www.firm", "addr"))
        self.sends(one.hear(9, self.answer("www.firm", "addr", answers=[rec("www.firm", "addr", 7, 30)]), 4))
        self.ends("good", [rec("www.firm", "addr", 7, 30)])
        self.assertEqual(one.sent(), 2)
        self.begins("www.firm", "addr", 33)
        self.ends("good", [rec("www.firm", "addr", 7, 1)])
        self.begins("www.firm", "addr", 34, (9, "www.firm", "addr"))
        self.begins("www.firm", "addr", 62, (1, "www.firm", "addr"))


if __name__ == "__main__":
    unittest.main()
