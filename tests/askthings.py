"""Askers for the tests, and the letters that they hear."""

import unittest

from namehouse.asker import Asker
from namehouse.letters import letter_of, row_of
from tests.things import same
from tests.zonethings import at, rec

ROOT = ("r",)
ROOTS = [(ROOT, 1)]


def keep(asker, turn, *records):
    """The asker keeps each set of these."""
    for pair in dict.fromkeys(record[:2] for record in records):
        asker.memory().keep([record for record in records if record[:2] == pair], turn)


def place(asker, name, addr, live=100, turn=0):
    """The asker knows one keeper of a name, at one addr."""
    owner = "k." + name if name else "k"
    keep(asker, turn, rec(name, "keeper", owner, live), rec(owner, "addr", addr, live))


class AskCase(unittest.TestCase):
    def asker(self, roots=None):
        self.one = Asker(list(roots or ROOTS))
        self.number = 0
        return self.one

    def sends(self, told, *asks):
        """What is told are these asks: (addr, name's text, kind), numbered on."""
        wanted = []
        for addr, name, kind in asks:
            wanted.append((addr, row_of((self.number % 65536, "ask", at(name), kind, "good", [], [], []))))
            self.number += 1
        self.assertTrue(same(told, wanted), (told and [(a, letter_of(r)) for a, r in told], asks))

    def begins(self, name, kind, turn, *asks):
        told = self.one.begin(at(name), kind, turn)
        self.sends(told, *asks)
        self.assertTrue(same(self.one.sent(), len(asks)))

    def answer(self, name, kind, outcome="good", answers=(), keepers=(), beside=(), number=None):
        """The row that answers the last ask."""
        number = (self.number - 1) % 65536 if number is None else number
        return row_of((number, "answer", at(name), kind, outcome, list(answers), list(keepers), list(beside)))

    def ends(self, *end):
        self.assertTrue(same(self.one.end(), tuple(end)), (self.one.end(), end))
        # What comes now changes nothing.
        self.assertEqual(self.one.tick(10 ** 6), [])
        self.assertTrue(same(self.one.end(), tuple(end)))

    def goes_on(self):
        self.assertIsNone(self.one.end())

    def kept(self, turn, many, *finds):
        """So many rows are kept, and these finds are told: (name's text, kind, what is told)."""
        self.assertEqual(self.one.memory().many(turn), many)
        for name, kind, wanted in finds:
            told = self.one.memory().find(at(name), kind, turn)
            self.assertTrue(same(told, wanted), (name, kind, told, wanted))
