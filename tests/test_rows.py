"""Promises [1], [5] and [6]: a letter's row, in writing and in reading."""

import copy
import itertools
import random
import unittest

from namehouse.errors import BadLetter
from namehouse.letters import is_letter, letter_of, row_of
from namehouse.records import KINDS
from tests.things import odd_things, same

OUTCOMES = ["good", "empty", "lacking", "handed", "refused"]
WWW = [3, 22, 22, 22]
FIRM = [4, 5, 8, 17, 12]
# The rows of answers about () begin so, up to how many answers there are; a record's name is at place 7.
ROOT_HEAD = [0, 1, 1, 0, 0, 0]


def answer(*records):
    """An answer about () with these answers."""
    return (1, "answer", (), "addr", "good", list(records), [], [])


def answer_row(many, numbers):
    """The row of such an answer, with its records' numbers."""
    return ROOT_HEAD + [many] + numbers + [0, 0]


# Letters and their rows, written out number by number.
BY_HAND = [
    ((0, "ask", (), "addr", "good", [], [], []), [0, 0, 0, 0, 0, 0, 0, 0, 0]),
    ((258, "ask", ("www", "firm"), "addr", "good", [], [], []),
     [1, 2, 0, 0, 3, 22, 22, 22, 4, 5, 8, 17, 12, 0, 0, 0, 0, 0]),
    ((65535, "ask", ("*", "firm"), "gap", "good", [], [], []),
     [255, 255, 0, 0, 1, 37, 4, 5, 8, 17, 12, 0, 8, 0, 0, 0]),
    ((255, "answer", ("a-z", "0", "9"), "seal", "refused", [], [], []),
     [0, 255, 1, 4, 3, 0, 36, 25, 1, 26, 1, 35, 0, 7, 0, 0, 0]),
    (answer((("a",), "addr", 66051, 72623859790382856)),
     answer_row(1, [1, 0, 0, 0, 0, 1, 2, 3, 1, 2, 3, 4, 5, 6, 7, 8])),
    (answer(((), "addr", 10 ** 6, 2 ** 64 - 1)),
     answer_row(1, [0, 0, 0, 15, 66, 64, 255, 255, 255, 255, 255, 255, 255, 255])),
    (answer(((), "text", 0, " !$&Az~")), answer_row(1, [0, 1, 0, 0, 0, 0, 7, 0, 1, 4, 6, 33, 90, 94])),
    (answer(((), "text", 1, "")), answer_row(1, [0, 1, 0, 0, 0, 1, 0])),
    (answer(((), "text", 1, "0" * 30)), answer_row(1, [0, 1, 0, 0, 0, 1, 30] + [16] * 30)),
    (answer((("firm",), "keeper", 256, ("ns", "org"))),
     answer_row(1, FIRM + [0, 2, 0, 0, 1, 0, 2, 13, 18, 3, 14, 17, 6, 0])),
    (answer((("a",), "other", 2, ())), answer_row(1, [1, 0, 0, 3, 0, 0, 0, 2, 0])),
    (answer(((), "top", 3, (2 ** 32 - 1, 10 ** 6))),
     answer_row(1, [0, 4, 0, 0, 0, 3, 255, 255, 255, 255, 0, 15, 66, 64])),
    (answer(((), "top", 3, (16909060, 5))), answer_row(1, [0, 4, 0, 0, 0, 3, 1, 2, 3, 4, 0, 0, 0, 5])),
    (answer(((), "key", 4, 10 ** 12)), answer_row(1, [0, 5, 0, 0, 0, 4, 0, 0, 0, 232, 212, 165, 16, 0])),
    (answer(((), "trust", 5, 1)), answer_row(1, [0, 6, 0, 0, 0, 5, 0, 0, 0, 0, 0, 0, 0, 1])),
    (answer(((), "seal", 6, ("gap", 10 ** 12, 1000000006))),
     answer_row(1, [0, 7, 0, 0, 0, 6, 8, 0, 0, 0, 232, 212, 165, 16, 0, 59, 154, 202, 6])),
    (answer(((), "gap", 7, (("b", "a"), ("addr", "gap", "text")))),
     answer_row(1, [0, 8, 0, 0, 0, 7, 1, 1, 1, 0, 0, 3, 0, 8, 1])),
    (answer(((), "gap", 7, ((), ()))), answer_row(1, [0, 8, 0, 0, 0, 7, 0, 0])),
    # Two kinds behind one another, and all three lists.
    ((1, "answer", (), "key", "handed", [((), "key", 0, 1), ((), "trust", 0, 2)], [((), "text", 0, "a")],
      [((), "other", 0, ()), ((), "addr", 0, 3), ((), "text", 0, "b")]),
     [0, 1, 1, 3, 0, 5,
      2, 0, 5, 0, 0, 0, 0, 0, 0, 0, 0, 0, 0, 0, 1, 0, 6, 0, 0, 0, 0, 0, 0, 0, 0, 0, 0, 0, 2,
      1, 0, 1, 0, 0, 0, 0, 1, 65,
      3, 0, 3, 0, 0, 0, 0, 0, 0, 0, 0, 0, 0, 0, 0, 0, 0, 0, 0, 0, 0, 3, 0, 1, 0, 0, 0, 0, 1, 66]),
    # Names told short: www.firm. is at 4 and firm. at 8; ns.firm. begins at 39.
    ((5, "answer", ("www", "firm"), "addr", "good", [(("www", "firm"), "addr", 3600, 2 ** 32 + 7)],
      [(("firm",), "keeper", 65536, ("ns", "firm"))], [(("ns", "firm"), "addr", 1, 255)]),
     [0, 5, 1, 0] + WWW + FIRM + [0, 0,
      1, 192, 4, 0, 0, 0, 14, 16, 0, 0, 0, 1, 0, 0, 0, 7,
      1, 192, 8, 2, 0, 1, 0, 0, 2, 13, 18, 192, 8,
      1, 192, 39, 0, 0, 0, 0, 1, 0, 0, 0, 0, 0, 0, 0, 255]),
    # Told short within data: a gap's name, and one that began so ahead (a.b. at 9) and ended in two numbers.
    ((0, "answer", ("b",), "gap", "empty", [], [],
      [(("a", "b"), "gap", 0, (("c", "a", "b"), ("addr",))), (("c", "a", "b"), "other", 0, ("d", "c", "a", "b")),
       (("*", "a", "b"), "keeper", 0, ("a", "b")), (("d", "b"), "keeper", 0, ("d", "b"))]),
     [0, 0, 1, 1, 1, 1, 0, 8, 0, 0,
      4, 1, 0, 192, 4, 8, 0, 0, 0, 0, 1, 2, 192, 11, 1, 0,
      192, 20, 3, 0, 0, 0, 0, 1, 3, 192, 20,
      1, 37, 192, 11, 2, 0, 0, 0, 0, 192, 11,
      1, 3, 192, 4, 2, 0, 0, 0, 0, 192, 48]),
    # Only a rest is told short: a.b. and b.a. share no last labels, nor do ba. and a.
    ((0, "answer", ("a", "b"), "addr", "good", [(("b", "a"), "other", 0, ("ba",)), (("a",), "other", 0, ("b",))], [], []),
     [0, 0, 1, 0, 1, 0, 1, 1, 0, 0,
      2, 1, 1, 1, 0, 0, 3, 0, 0, 0, 0, 2, 1, 0, 0, 192, 13, 3, 0, 0, 0, 0, 192, 6, 0, 0]),
    # A name whose labels are alike.
    ((0, "answer", ("a", "a", "a"), "addr", "good", [(("a", "a"), "other", 0, ("a", "a", "a", "a"))], [], []),
     [0, 0, 1, 0, 1, 0, 1, 0, 1, 0, 0, 0, 1, 192, 6, 3, 0, 0, 0, 0, 1, 0, 192, 4, 0, 0]),
]


def plain_name(name):
    """A name's numbers, nothing told short."""
    signs = "abcdefghijklmnopqrstuvwxyz0123456789-*"
    return [number for label in name for number in [len(label)] + [signs.index(sign) for sign in label]] + [0]


def plain_row(letter):
    """A letter's row in which names aren't told short."""
    number, way, name, kind, outcome = letter[:5]
    row = list(number.to_bytes(2, "big")) + [["ask", "answer"].index(way), OUTCOMES.index(outcome)]
    row += plain_name(name) + [KINDS.index(kind)]
    for records in letter[5:]:
        row.append(len(records))
        for name, kind, live, data in records:
            row += plain_name(name) + [KINDS.index(kind)] + list(live.to_bytes(4, "big")) + plain_data(kind, data)
    return row


def plain_data(kind, data):
    """The numbers of data."""
    if kind == "text":
        return [len(data)] + [ord(sign) - 32 for sign in data]
    if kind in ("keeper", "other"):
        return plain_name(data)
    if kind == "top":
        return list(data[0].to_bytes(4, "big") + data[1].to_bytes(4, "big"))
    if kind == "seal":
        return [KINDS.index(data[0])] + list(data[1].to_bytes(8, "big") + data[2].to_bytes(4, "big"))
    if kind == "gap":
        return plain_name(data[0]) + [len(data[1])] + [KINDS.index(kind) for kind in data[1]]
    return list(data.to_bytes(8, "big"))


def some_letters():
    """Many letters, the same at each run."""
    chance = random.Random(7)
    labels = ["a", "b", "ns", "www", "firm", "a-0", "abcdefgh"]

    def name(star=True):
        labelled = tuple(chance.choice(labels) for _ in range(chance.randint(0, 6)))
        return ("*",) + labelled[1:] if star and chance.random() < 0.2 else labelled

    def data(kind):
        return {
            "addr": lambda: chance.choice([0, 255, 256, 2 ** 64 - 1, chance.randrange(2 ** 64)]),
            "text": lambda: "".join(chance.choice("aZ09 ~\"\\{}#$&_.") for _ in range(chance.randint(0, 30))),
            "keeper": lambda: name(False), "other": lambda: name(False),
            "top": lambda: (chance.randrange(2 ** 32), chance.randint(0, 10 ** 6)),
            "key": lambda: chance.randint(1, 10 ** 12), "trust": lambda: chance.randint(1, 10 ** 12),
            "seal": lambda: (chance.choice([kind for kind in KINDS if kind != "seal"]), chance.randint(1, 10 ** 12),
                             chance.randint(0, 1000000006)),
            "gap": lambda: (name(), tuple(sorted(chance.sample(["addr", "text", "top", "trust"], chance.randint(0, 4))))),
        }[kind]()

    def records():
        kinds = [chance.choice(KINDS) for _ in range(chance.choice([0, 1, 2, 3, 8]))]
        return [(name(), kind, chance.choice([0, 1, 256, 10 ** 6]), data(kind)) for kind in kinds]

    for number in range(300):
        letter = (number * 218, "answer", name(), chance.choice(KINDS), chance.choice(OUTCOMES))
        yield letter + (records(), records(), records())


class RowOfTest(unittest.TestCase):
    def test_rows_written_by_hand(self):
        for letter, row in BY_HAND:
            self.assertIs(is_letter(letter), True, letter)
            self.assertTrue(same(row_of(letter), row), (letter, row_of(letter)))

    def test_outcomes_by_their_places(self):
        for place, outcome in enumerate(OUTCOMES):
            self.assertEqual(row_of((9, "answer", (), "top", outcome, [], [], [])), [0, 9, 1, place, 0, 4, 0, 0, 0])

    def test_kinds_by_their_places(self):
        kinds = ("addr", "text", "keeper", "other", "top", "key", "trust", "seal", "gap")
        for place, kind in enumerate(kinds):
            self.assertEqual(row_of((9, "ask", (), kind, "good", [], [], [])), [0, 9, 0, 0, 0, place, 0, 0, 0])

    def test_signs_of_labels_by_their_places(self):
        row = row_of((0, "ask", ("abcdefgh", "ijklmnop", "qrstuvwx", "yz012345", "6789-"), "addr", "good", [], [], []))
        signs = [number for at, number in enumerate(row[4:-5]) if at % 9]
        self.assertEqual(signs, list(range(37)))

    def test_signs_of_texts_by_their_places(self):
        for place in range(95):
            if place != 5:
                letter = answer(((), "text", 0, chr(32 + place)))
                row = answer_row(1, [0, 1, 0, 0, 0, 0, 1, place])
                self.assertEqual(row_of(letter), row)
                self.assertTrue(same(letter_of(row), letter))

    def test_places_beyond_255(self):
        records = [((label,), "text", 0, "x" * 30) for label in ("a", "b", "c", "d", "e", "f", "g", "h")]
        letter = answer(*records, (("b", "h"), "keeper", 0, ("h",)), (("b", "h"), "keeper", 0, ("g",)))
        row = row_of(letter)
        # Each of the eight takes 39 numbers: h. is at 7 + 7 * 39 = 280, g. at 241, b.h. at 7 + 8 * 39 = 319.
        self.assertEqual(row[319:], [1, 1, 193, 24, 2, 0, 0, 0, 0, 193, 24, 193, 63, 2, 0, 0, 0, 0, 192, 241, 0, 0])
        self.assertTrue(same(letter_of(row), letter))

    def test_the_longest_rows(self):
        longest = answer(*[((), "text", 0, "x" * 30)] * 53, ((), "text", 0, "y" * 23))
        self.assertEqual(len(row_of(longest)), 2000)
        self.assertTrue(same(letter_of(row_of(longest)), longest))
        beyond = answer(*[((), "text", 0, "x" * 30)] * 53, ((), "text", 0, "y" * 24))
        self.assertIs(is_letter(beyond), True)
        with self.assertRaises(BadLetter):
            row_of(beyond)
        with self.assertRaises(BadLetter):
            row_of(answer(*[((), "text", 0, "x" * 30)] * 61))

    def test_what_is_no_letter(self):
        for thing in odd_things() + [(), [], BY_HAND[0][1], list(BY_HAND[0][0]), BY_HAND[0][0][:7],
                                     (65536,) + BY_HAND[0][0][1:], answer(None), answer(((), "addr", 0, -1)),
                                     answer(*[((), "addr", 0, 1)] * 62), (0, "ask", (), "addr", "empty", [], [], [])]:
            with self.assertRaises(BadLetter, msg=repr(thing)):
                row_of(thing)

    def test_what_is_told_is_a_new_list_and_the_letter_is_not_changed(self):
        for letter, row in BY_HAND:
            kept = copy.deepcopy(letter)
            told = row_of(letter)
            told.append(1)
            told[0] = 99
            self.assertEqual(letter, kept)
            self.assertEqual(row_of(letter), row)


class LetterOfTest(unittest.TestCase):
    def bad(self, row):
        with self.assertRaises(BadLetter, msg=repr(row)):
            letter_of(row)

    def test_rows_written_by_hand(self):
        for letter, row in BY_HAND:
            self.assertTrue(same(letter_of(row), letter), (letter, letter_of(row)))

    def test_there_and_back(self):
        for letter in some_letters():
            row = row_of(letter)
            self.assertTrue(all(type(number) is int and 0 <= number <= 255 for number in row))
            self.assertTrue(same(letter_of(row), letter), letter)

    def test_names_that_are_not_told_short(self):
        shorter = 0
        for letter in [letter for letter, _ in BY_HAND] + list(some_letters()):
            row = plain_row(letter)
            if len(row) <= 2000:
                self.assertTrue(same(letter_of(row), letter), letter)
                shorter += len(row_of(letter)) < len(row)
        self.assertGreater(shorter, 200)

    def test_what_is_told_is_new_and_the_row_is_not_changed(self):
        for letter, row in BY_HAND:
            kept = list(row)
            told = letter_of(row)
            for part in told[5:]:
                part.append(1)
            self.assertEqual(row, kept)
            self.assertTrue(same(letter_of(row), letter))
            told = letter_of(row)
            row.append(0)
            self.assertTrue(same(told, letter))
            row.pop()

    def test_rows_cut_off(self):
        for _, row in BY_HAND:
            for many in range(len(row)):
                self.bad(row[:many])

    def test_rows_that_are_longer(self):
        for _, row in BY_HAND:
            for more in ([0], [1], [192, 4], row):
                self.bad(row + more)

    def test_what_is_no_list_of_numbers(self):
        for thing in odd_things() + [(), tuple(BY_HAND[0][1]), bytes(BY_HAND[0][1]), "", "000000000", []]:
            self.bad(thing)
        for _, row in BY_HAND[:5] + BY_HAND[-3:]:
            for at in range(len(row)):
                for number in [-1, 256, 257, 10 ** 9, None, "0", "", 0.0, float(row[at]), [row[at]], (row[at],)]:
                    self.bad(row[:at] + [number] + row[at + 1:])
                if row[at] in (0, 1):
                    self.bad(row[:at] + [row[at] == 1] + row[at + 1:])

    def test_rows_of_2000_and_of_2001_numbers(self):
        texts = [0, 1, 0, 0, 0, 0, 30] + [1] * 30
        longest = answer_row(54, texts * 53 + [0, 1, 0, 0, 0, 0, 23] + [1] * 23)
        self.assertEqual(len(longest), 2000)
        self.assertEqual(len(letter_of(longest)[5]), 54)
        beyond = answer_row(54, texts * 53 + [0, 1, 0, 0, 0, 0, 24] + [1] * 24)
        self.assertEqual(len(beyond), 2001)
        self.bad(beyond)

    def test_2001_numbers_of_a_letter_whose_own_row_is_shorter(self):
        # 9 numbers, 29 records of 68, and one of 7 and its signs.
        for signs in (12, 13):
            letter = answer(*[(("abcdefgh",) * 6, "addr", 0, 1)] * 29, ((), "text", 0, "x" * signs))
            row = plain_row(letter)
            self.assertEqual(len(row), 1988 + signs)
            self.assertLess(len(row_of(letter)), 2000)
            if len(row) == 2000:
                self.assertTrue(same(letter_of(row), letter))
            else:
                self.bad(row)

    def test_numbers_out_of_what_a_letter_has(self):
        self.bad([0, 0, 2, 0, 0, 0, 0, 0, 0])
        self.bad([0, 0, 255, 0, 0, 0, 0, 0, 0])
        self.bad([0, 0, 1, 5, 0, 0, 0, 0, 0])
        self.bad([0, 0, 1, 255, 0, 0, 0, 0, 0])
        self.bad([0, 0, 1, 0, 0, 9, 0, 0, 0])
        self.bad([0, 0, 1, 0, 0, 255, 0, 0, 0])
        for outcome in (1, 2, 3, 4):
            self.assertEqual(letter_of([0, 0, 1, outcome, 0, 0, 0, 0, 0])[4], OUTCOMES[outcome])
            self.bad([0, 0, 0, outcome, 0, 0, 0, 0, 0])

    def test_an_ask_with_records(self):
        record = [0, 1, 0, 0, 0, 0, 0]
        for parts in ([1] + record + [0, 0], [0, 1] + record + [0], [0, 0, 1] + record):
            self.assertEqual(letter_of([0, 0, 1, 0, 0, 0] + parts)[1], "answer")
            self.bad([0, 0, 0, 0, 0, 0] + parts)

    def test_61_records_in_all_and_62(self):
        record = [0, 1, 0, 0, 0, 0, 0]
        for first, second, third in [(61, 0, 0), (0, 61, 0), (0, 0, 61), (20, 20, 21)]:
            row = ROOT_HEAD + [first] + record * first + [second] + record * second + [third] + record * third
            self.assertEqual([len(part) for part in letter_of(row)[5:]], [first, second, third])
            row = ROOT_HEAD + [first + 1] + record * (first + 1) + [second] + record * second + [third] + record * third
            self.bad(row)
        self.bad(ROOT_HEAD + [255] + record * 255 + [0, 0])

    def test_data_out_of_their_bounds(self):
        head = [0, 0, 0, 0, 0]
        good = [
            [0, 5] + head[1:] + [0, 0, 0, 232, 212, 165, 16, 0], [0, 6] + head[1:] + [0, 0, 0, 0, 0, 0, 0, 1],
            [0, 4] + head[1:] + [0, 0, 0, 0, 0, 15, 66, 64], [0, 1, 0, 15, 66, 64, 0],
            [0, 7] + head[1:] + [8, 0, 0, 0, 0, 0, 0, 0, 1, 59, 154, 202, 6],
            [0, 8] + head[1:] + [0, 2, 0, 1], [0, 1] + head[1:] + [1, 94], [0, 1] + head[1:] + [30] + [0] * 30]
        bad = [
            [0, 5] + head[1:] + [0, 0, 0, 232, 212, 165, 16, 1], [0, 5] + head[1:] + [255] * 8, [0, 5] + head[1:] + [0] * 8,
            [0, 6] + head[1:] + [0, 0, 0, 232, 212, 165, 16, 1], [0, 6] + head[1:] + [0] * 8,
            [0, 4] + head[1:] + [0, 0, 0, 0, 0, 15, 66, 65], [0, 1, 0, 15, 66, 65, 0], [0, 1, 255, 255, 255, 255, 0],
            [0, 7] + head[1:] + [7, 0, 0, 0, 0, 0, 0, 0, 1, 0, 0, 0, 0],
            [0, 7] + head[1:] + [9, 0, 0, 0, 0, 0, 0, 0, 1, 0, 0, 0, 0],
            [0, 7] + head[1:] + [0, 0, 0, 0, 0, 0, 0, 0, 0, 0, 0, 0, 0],
            [0, 7] + head[1:] + [0, 0, 0, 0, 0, 0, 0, 0, 1, 59, 154, 202, 7],
            [0, 8] + head[1:] + [0, 2, 1, 0], [0, 8] + head[1:] + [0, 2, 0, 0], [0, 8] + head[1:] + [0, 1, 9],
            [0, 8] + head[1:] + [0, 10] + [0] * 10, [0, 9] + head[1:] + [0] * 8,
            [0, 1] + head[1:] + [1, 95], [0, 1] + head[1:] + [1, 255], [0, 1] + head[1:] + [31] + [0] * 31,
            [0, 2] + head[1:] + [1, 37, 0], [0, 3] + head[1:] + [1, 37, 1, 0, 0]]
        for record in good:
            self.assertTrue(is_letter(letter_of(answer_row(1, record))), record)
        for record in bad:
            self.bad(answer_row(1, record))

    def test_names_that_are_none(self):
        for numbers, good in [
                ([8] + [0] * 8 + [0], True), ([9] + [0] * 9 + [0], False), ([1, 36, 0], True), ([1, 38, 0], False),
                ([1, 255, 0], False), ([1, 37, 0], True), ([1, 37, 1, 0, 0], True), ([1, 0, 1, 37, 0], False),
                ([1, 37, 1, 37, 0], False), ([2, 37, 0, 0], False), ([2, 0, 37, 0], False), ([1, 0] * 6 + [0], True),
                ([1, 0] * 7 + [0], False), ([64] + [0] * 64 + [0], False), ([128] + [0] * 128 + [0], False),
                ([191] + [0] * 191 + [0], False)]:
            row = [0, 0, 0, 0] + numbers + [0, 0, 0, 0]
            if good:
                self.assertTrue(is_letter(letter_of(row)), row)
            else:
                self.bad(row)


class TakenPlacesTest(unittest.TestCase):
    """Names told short by the places that [6] lets by, and by others."""

    # www.firm. stands at 4, firm. at 8, its end at 13, the kind at 14, how many answers at 15, the record at 16.
    HEAD = [0, 5, 1, 0] + WWW + FIRM + [0, 0]
    REST = [3, 0, 0, 0, 0]

    def others(self, *numbers):
        """The names and data of a row's records of kind other, each of which takes the numbers of one or two names."""
        row = self.HEAD + [len(numbers)]
        for name, data in numbers:
            row = row + name + self.REST + data
        return [(record[0], record[3]) for record in letter_of(row + [0, 0])[5]]

    def bad(self, *numbers):
        with self.assertRaises(BadLetter, msg=repr(numbers)):
            self.others(*numbers)

    def test_the_first_place(self):
        self.assertEqual(self.others(([192, 4], [192, 8])), [(("www", "firm"), ("firm",))])
        self.assertEqual(self.others(([1, 0, 192, 4], [1, 1, 192, 8])), [(("a", "www", "firm"), ("b", "firm"))])

    def test_another_place_where_it_stands_label_by_label(self):
        # The first record's name is at 16, its firm. at 20; its data are at 31, behind its end at 25.
        row = (WWW + FIRM + [0], FIRM + [0])
        wanted = [(("www", "firm"), ("firm",))]
        for first, second in [([192, 16], [192, 20]), ([192, 4], [192, 31]), ([192, 16], [192, 8])]:
            self.assertEqual(self.others(row, (first, second)), wanted * 2)

    def test_a_place_where_it_is_told_short_itself(self):
        # a.firm. begins at 16 and is told short at 18; behind five numbers its data, firm. alone, at 25.
        row = ([1, 0, 192, 8], [192, 8])
        wanted = [(("a", "firm"), ("firm",))]
        self.assertEqual(self.others(row, ([192, 16], [1, 1, 192, 18])), wanted + [(("a", "firm"), ("b", "firm"))])
        self.assertEqual(self.others(row, ([192, 16], [192, 25])), wanted * 2)
        # A chain of these: at 27 a.firm. told short, at 34 that again.
        self.assertEqual(self.others(row, ([192, 16], [192, 27]), ([1, 1, 192, 34], [192, 34])),
                         wanted + [(("a", "firm"), ("a", "firm")), (("b", "a", "firm"), ("a", "firm"))])

    def test_the_name_ahead_in_the_same_record(self):
        self.assertEqual(self.others(([1, 0, 1, 1, 0], [192, 16])), [(("a", "b"), ("a", "b"))])
        self.assertEqual(self.others(([1, 0, 1, 1, 0], [1, 2, 192, 18])), [(("a", "b"), ("c", "b"))])

    def test_places_that_lead_to_themselves(self):
        self.bad(([192, 16], [192, 8]))
        self.bad(([192, 8], [192, 23]))
        self.bad(([1, 0, 192, 16], [192, 8]))
        self.bad(([1, 0, 192, 18], [192, 8]))
        self.bad(([1, 0, 1, 1, 192, 18], [192, 8]))
        with self.assertRaises(BadLetter):
            letter_of([0, 5, 1, 0, 192, 4, 0, 0, 0, 0])
        with self.assertRaises(BadLetter):
            letter_of([0, 5, 1, 0, 1, 0, 192, 4, 0, 0, 0, 0])

    def test_places_behind(self):
        self.bad(([192, 23], [1, 0, 0]))
        self.bad(([192, 23], [192, 16]))
        self.bad(([192, 25], [192, 8]), ([192, 16], [192, 8]))
        self.bad(([192, 17], [192, 8]))
        self.bad(([192, 18], [192, 8]))
        self.bad(([192, 255], [192, 8]))
        self.bad(([199, 255], [192, 8]))
        self.bad(([255, 255], [192, 8]))
        self.bad(([193, 4], [192, 8]))

    def test_places_in_the_midst_of_something_else(self):
        # The numbers there are signs of labels; read as lengths, they lead to no label.
        for place in [5, 6, 7, 10, 11, 12]:
            self.bad(([192, place], [192, 8]))
            self.bad(([1, 0, 192, place], [192, 8]))

    def test_places_where_no_label_is(self):
        # 13 is the end of a name, 14 a kind, 0 and 3 numbers of the head: all 0.
        for place in [0, 3, 13, 14]:
            self.bad(([192, place], [192, 8]))
            self.bad(([1, 0, 192, place], [192, 8]))

    def test_two_numbers_of_which_one_is_missing(self):
        for many in range(len(self.HEAD) + 2):
            with self.assertRaises(BadLetter):
                letter_of((self.HEAD + [1, 192])[:many])

    def test_names_that_are_none_as_they_are_told_short(self):
        six = ([1, 0, 1, 1, 1, 2, 1, 3, 192, 4], [192, 18])
        wanted = [(("a", "b", "c", "d", "www", "firm"), ("b", "c", "d", "www", "firm"))]
        self.assertEqual(self.others(six), wanted)
        self.bad(([1, 0] * 5 + [192, 4], [192, 8]))
        self.bad(six, ([1, 4, 192, 16], [192, 8]))
        # *.firm. at 16: as another name it may stand, behind a label or as data of an other it may not.
        self.assertEqual(self.others(([1, 37, 192, 8], [192, 8]), ([192, 16], [192, 8])), [(("*", "firm"), ("firm",))] * 2)
        self.bad(([1, 37, 192, 8], [192, 8]), ([1, 0, 192, 16], [192, 8]))
        self.bad(([1, 37, 192, 8], [192, 8]), ([192, 8], [192, 16]))

    def test_numbers_between_a_label_and_two_that_tell_short(self):
        for number in [9, 10, 63, 64, 65, 127, 128, 129, 190, 191]:
            self.bad(([number, 8], [192, 8]))
            self.bad(([1, 0, number, 8], [192, 8]))

    def test_a_long_way_of_places(self):
        row = ROOT_HEAD + [60] + [1, 0, 0, 1, 0, 0, 0, 0, 0]
        at = 7
        for _ in range(59):
            there = len(row)
            row = row + [192 + at // 256, at - at // 256 * 256, 1, 0, 0, 0, 0, 0]
            at = there
        self.assertEqual([record[0] for record in letter_of(row + [0, 0])[5]], [("a",)] * 60)


class AnyRowTest(unittest.TestCase):
    """Whatever is read is a letter; all else is BadLetter alone."""

    def look(self, row):
        kept = list(row)
        try:
            letter = letter_of(row)
        except BadLetter:
            letter = None
        self.assertEqual(row, kept)
        if letter is not None:
            self.assertIs(is_letter(letter), True, row)
            self.assertTrue(same(letter_of(row_of(letter)), letter), row)

    def test_one_number_changed(self):
        for _, row in BY_HAND:
            for at, number in itertools.product(range(len(row)), [0, 1, 2, 8, 9, 37, 38, 191, 192, 193, 255]):
                self.look(row[:at] + [number] + row[at + 1:])

    def test_one_number_out_or_in(self):
        for _, row in BY_HAND:
            for at in range(len(row)):
                self.look(row[:at] + row[at + 1:])
                self.look(row[:at] + [192] + row[at:])

    def test_rows_by_chance(self):
        chance = random.Random(11)
        for _ in range(3000):
            self.look([chance.choice([0, 0, 0, 1, 1, 2, 4, 192, chance.randint(0, 255)]) for _ in range(chance.randint(0, 40))])


if __name__ == "__main__":
    unittest.main()
