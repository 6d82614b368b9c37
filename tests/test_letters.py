"""Promises [1] and [4]: what a letter is."""

import copy
import unittest

from namehouse.letters import is_letter, row_of
from namehouse.errors import BadLetter
from namehouse.records import KINDS
from tests.things import odd_things

SIX = ("a", "b", "c", "d", "e", "f")
ADDR = (("www", "firm"), "addr", 60, 7)
KEEPER = (("firm",), "keeper", 60, ("ns", "firm"))
TOP = (("firm",), "top", 60, (1, 5))
ASK = (1, "ask", ("www", "firm"), "addr", "good", [], [], [])
ANSWER = (1, "answer", ("www", "firm"), "addr", "good", [ADDR], [KEEPER], [TOP])
OUTCOMES = ["good", "empty", "lacking", "handed", "refused"]


def put(letter, at, part):
    """The letter with another part at a place."""
    return letter[:at] + (part,) + letter[at + 1:]


class IsLetterTest(unittest.TestCase):
    def yes(self, letter):
        self.assertIs(is_letter(letter), True, repr(letter))

    def no(self, thing):
        """No letter, and none that has a row."""
        self.assertIs(is_letter(thing), False, repr(thing))
        with self.assertRaises(BadLetter, msg=repr(thing)):
            row_of(thing)

    def test_letters(self):
        self.yes(ASK)
        self.yes(ANSWER)

    def test_numbers(self):
        for letter in (ASK, ANSWER):
            for number in [0, 1, 255, 256, 65534, 65535]:
                self.yes(put(letter, 0, number))
            for number in [-1, 65536, 10 ** 9, True, False, 1.0, "1", None, [1], (1,)]:
                self.no(put(letter, 0, number))

    def test_ways(self):
        for way in ["", "Ask", "ASK", "tell", "answers", "ask ", "good", None, 0, 1, True, False, ["ask"], ("answer",)]:
            self.no(put(ASK, 1, way))
            self.no(put(ANSWER, 1, way))

    def test_names(self):
        for letter in (ASK, ANSWER):
            for name in [(), ("a",), ("*",), ("*", "firm"), SIX]:
                self.yes(put(letter, 2, name))
            for name in ["www.firm.", "", ["www", "firm"], [], None, 1, ("A",), ("",), ("a", "*"), SIX + ("g",), (1,)]:
                self.no(put(letter, 2, name))

    def test_kinds(self):
        for letter in (ASK, ANSWER):
            for kind in KINDS:
                self.yes(put(letter, 3, kind))
            for kind in ["", "Addr", "name", "addrs", None, 0, 1, True, ["addr"], ("addr",), {}]:
                self.no(put(letter, 3, kind))

    def test_outcomes(self):
        for outcome in OUTCOMES:
            self.yes(put(ANSWER, 4, outcome))
            self.yes((1, "answer", (), "top", outcome, [], [], []))
            if outcome != "good":
                self.no(put(ASK, 4, outcome))
        for letter in (ASK, ANSWER):
            for outcome in ["", "Good", "bad", "ask", "answer", None, 0, True, ["good"], ("good",)]:
                self.no(put(letter, 4, outcome))

    def test_the_three_lists(self):
        for at in (5, 6, 7):
            self.yes(put(ANSWER, at, []))
            self.yes(put(ANSWER, at, [ADDR, ADDR]))
            self.yes(put(ANSWER, at, [TOP, ADDR, KEEPER]))
            for part in [(), (ADDR,), ADDR, None, "", 0, False, {}, {ADDR: 1}, set(), [None], [ADDR, None], [[]], [()],
                         [list(ADDR)], [ADDR[:3]], [ADDR + (1,)], [(("www", "firm"), "addr", 60, True)],
                         [(("www", "firm"), "addr", 10 ** 6 + 1, 1)], [(("a", "*"), "addr", 60, 1)], [[ADDR]]]:
                self.no(put(ANSWER, at, part))
                self.no(put(ASK, at, part))

    def test_an_ask_has_no_records(self):
        for at in (5, 6, 7):
            for part in ([ADDR], [KEEPER, TOP]):
                self.no(put(ASK, at, part))

    def test_records_of_other_names_and_kinds_than_asked(self):
        self.yes((1, "answer", ("a",), "text", "lacking", [KEEPER], [ADDR], [(("*",), "text", 0, "")]))

    def test_61_records_in_all_and_62(self):
        for parts in [(61, 0, 0), (0, 61, 0), (0, 0, 61), (60, 1, 0), (20, 20, 21), (1, 59, 1)]:
            lists = tuple([ADDR] * many for many in parts)
            for outcome in OUTCOMES:
                self.yes((1, "answer", ("a",), "addr", outcome) + lists)
            for at in range(3):
                more = [list(part) for part in lists]
                more[at].append(ADDR)
                self.no((1, "answer", ("a",), "addr", "good") + tuple(more))
        self.no((1, "answer", ("a",), "addr", "good", [ADDR] * 61, [ADDR] * 61, [ADDR] * 61))
        self.no((1, "answer", ("a",), "addr", "good", [ADDR] * 300, [], []))

    def test_a_list_for_the_tuple_and_parts_more_or_less(self):
        for letter in (ASK, ANSWER):
            self.no(list(letter))
            self.no(letter[:7])
            self.no(letter[1:])
            self.no(letter + ([],))
            self.no((letter,))
            self.no([letter])
            self.no(letter[::-1])

    def test_anything_else(self):
        for thing in odd_things() + [(), [], "", "ask", (1, "ask"), (None,) * 8, ([],) * 8, "abcdefgh", list(range(8))]:
            self.no(thing)

    def test_odd_parts(self):
        for letter in (ASK, ANSWER):
            for at in range(8):
                for thing in odd_things():
                    if at or type(thing) is not int or thing < 0:
                        self.no(put(letter, at, thing))

    def test_nothing_is_changed(self):
        kept = copy.deepcopy(ANSWER)
        is_letter(ANSWER)
        is_letter(list(ANSWER))
        self.assertEqual(ANSWER, kept)


if __name__ == "__main__":
    unittest.main()
