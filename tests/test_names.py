"""Promises [1] and [2]: labels, names, their texts and their order."""

import copy
import itertools
import unittest

from namehouse.errors import BadName
from namehouse.names import below, is_label, is_name, name_of, ordered_names, star_of, text_of
from tests.things import odd_things, same

SIX = ("a", "b", "c", "d", "e", "f")
NAMES = [(), ("a",), ("*",), ("www", "firm"), ("*", "firm"), SIX, ("*", "b", "c", "d", "e", "f"),
         ("abcdefgh", "01234567", "89-"), ("-",), ("--------", "0"), ("a", "a", "a")]
NO_NAMES = [SIX + ("g",), ("*",) + SIX, ("www", "*"), ("*", "*"), ("a", "*", "b"), ("a*",), ("**",), ("*a", "b"), ("",),
            ("a", ""), ("A",), ("a b",), (" ",), ("a.b",), ("a_b",), ("abcdefghi",), ("www", "Firm"), ["www", "firm"],
            [], "www.firm.", "www", "", ("a", 1), ("a", None), ("a", ["b"]), (("a",),), (1,), (True,), ("a\n",)]


class LabelTest(unittest.TestCase):
    def test_labels(self):
        for label in ["a", "z", "0", "9", "-", "*", "firm", "a-b", "-a", "a-", "--", "12345678", "abcdefgh", "z9-a0"]:
            self.assertIs(is_label(label), True, label)

    def test_each_sign_alone(self):
        good = "abcdefghijklmnopqrstuvwxyz0123456789-*"
        for place in range(32, 127):
            if chr(place) != "%":
                self.assertIs(is_label(chr(place)), chr(place) in good, chr(place))
                self.assertIs(is_label("a" + chr(place)), chr(place) in good[:-1], chr(place))

    def test_lengths(self):
        for many in range(0, 20):
            self.assertIs(is_label("a" * many), 1 <= many <= 8, many)
        self.assertIs(is_label("abcdefgh"), True)
        self.assertIs(is_label("abcdefghi"), False)
        self.assertIs(is_label(""), False)

    def test_a_star_stands_for_itself_alone(self):
        for text in ["**", "a*", "*a", "a*b", "*-", "* "]:
            self.assertIs(is_label(text), False, text)

    def test_great_letters_blanks_and_other_signs(self):
        for text in ["A", "Firm", "firM", " ", "a b", " a", "a ", "a.", ".", "a.b", "a_b", "_", "a/b", "a\n", "\n", "a,b",
                     "\u00e4", "\u0430", "\u0663", "\uff11", "\u017f"]:
            self.assertIs(is_label(text), False, ascii(text))

    def test_anything_else(self):
        for thing in odd_things() + [["a"], ("a",), ["a", "b"], (), []]:
            self.assertIs(is_label(thing), False, repr(thing))


class NameTest(unittest.TestCase):
    def test_names(self):
        for name in NAMES:
            self.assertIs(is_name(name), True, name)

    def test_how_many_labels(self):
        for many in range(0, 10):
            self.assertIs(is_name(("a",) * many), many <= 6, many)
            self.assertIs(is_name(("*",) + ("a",) * many), many <= 5, many)

    def test_a_star_stands_as_the_first_label_alone(self):
        for many in range(1, 7):
            for at in range(many):
                labels = ["a"] * many
                labels[at] = "*"
                self.assertIs(is_name(tuple(labels)), at == 0, labels)

    def test_no_names(self):
        for thing in NO_NAMES:
            self.assertIs(is_name(thing), False, repr(thing))

    def test_anything_else(self):
        for thing in odd_things():
            self.assertIs(is_name(thing), False, repr(thing))


class TextTest(unittest.TestCase):
    def test_texts(self):
        for name, text in [((), "."), (("www", "firm"), "www.firm."), (("a",), "a."), (("*",), "*."),
                           (("*", "firm"), "*.firm."), (SIX, "a.b.c.d.e.f."), (("-", "0", "z9"), "-.0.z9.")]:
            self.assertTrue(same(text_of(name), text), name)
            self.assertTrue(same(name_of(text), name), text)

    def test_there_and_back(self):
        for name in NAMES:
            self.assertTrue(same(name_of(text_of(name)), name), name)

    def test_no_texts_of_names(self):
        for text in ["", "www.firm", "www", "..", "...", "www..firm.", "www.firm..", ".www.firm.", ".www", ".a.", "a..",
                     " .", ". ", " ", "www.firm. ", " www.firm.", "www .firm.", "Www.firm.", "a.b.c.d.e.f.g.",
                     "*.a.b.c.d.e.f.", "www.*.", "*.*.", "a*.", "**.", "abcdefghi.", "a_b.", "a,b.", "a.b.\n", "a\n.",
                     ".\n", "a", "*"]:
            with self.assertRaises(BadName, msg=repr(text)):
                name_of(text)

    def test_name_of_anything_else(self):
        for thing in odd_things() + [(), ("www", "firm"), ["www.firm."], ("www.firm.",), []]:
            with self.assertRaises(BadName, msg=repr(thing)):
                name_of(thing)

    def test_text_of_what_is_no_name(self):
        for thing in odd_things() + NO_NAMES:
            with self.assertRaises(BadName, msg=repr(thing)):
                text_of(thing)


class BelowTest(unittest.TestCase):
    def test_below(self):
        for name, other, wanted in [
                (("www", "firm"), ("firm",), True), (("firm",), ("www", "firm"), False),
                (("www", "firm"), ("www",), False), (("a", "b", "c"), ("b", "c"), True),
                (("a", "b", "c"), ("a", "b"), False), (("a", "b", "c"), ("a", "c"), False),
                (("afirm",), ("firm",), False), (("www", "firm"), ("irm",), False), (("a",), ("b",), False),
                (("a", "b"), ("a", "b"), True), (("b", "a"), ("a", "b"), False), (("*", "firm"), ("firm",), True),
                (("www", "firm"), ("*", "firm"), False), (("*", "firm"), ("*", "firm"), True), ((), ("a",), False)]:
            self.assertIs(below(name, other), wanted, (name, other))

    def test_each_is_below_itself_and_all_below_the_root(self):
        for name in NAMES:
            self.assertIs(below(name, name), True, name)
            self.assertIs(below(name, ()), True, name)
            self.assertIs(below((), name), name == (), name)

    def test_below_is_by_the_last_labels(self):
        names = [labels for many in range(4) for labels in itertools.product("ab", repeat=many)]
        for name in names:
            for other in names:
                ends = [name[at:] for at in range(len(name) + 1)]
                self.assertIs(below(name, other), other in ends, (name, other))

    def test_below_of_what_is_no_name(self):
        for thing in odd_things() + NO_NAMES:
            for pair in [(thing, ()), ((), thing), (thing, thing), (("a",), thing), (thing, ("a",))]:
                with self.assertRaises(BadName, msg=repr(pair)):
                    below(*pair)


class StarTest(unittest.TestCase):
    def test_star_of(self):
        for name, wanted in [(("www", "firm"), ("*", "firm")), (("firm",), ("*",)), (("*",), ("*",)),
                             (("*", "firm"), ("*", "firm")), (SIX, ("*",) + SIX[1:])]:
            self.assertTrue(same(star_of(name), wanted), name)

    def test_star_of_a_name_without_a_label(self):
        with self.assertRaises(BadName):
            star_of(())

    def test_star_of_what_is_no_name(self):
        for thing in odd_things() + NO_NAMES:
            with self.assertRaises(BadName, msg=repr(thing)):
                star_of(thing)


class OrderTest(unittest.TestCase):
    def test_by_the_last_label_on(self):
        wanted = [(), ("*",), ("-",), ("0",), ("9",), ("a",), ("*", "a"), ("-", "a"), ("0", "a"), ("z", "a"),
                  ("a", "z", "a"), ("aa",), ("ab",), ("z", "ab"), ("b",), ("a", "b"), ("a", "a", "b"), ("z", "a", "b"),
                  ("b", "b"), ("z",)]
        for turned in (wanted[::-1], wanted[7:] + wanted[:7], sorted(wanted), sorted(wanted, key=len)):
            self.assertTrue(same(ordered_names(turned), wanted))

    def test_a_name_stands_ahead_of_those_below_it(self):
        names = [labels for many in range(4) for labels in itertools.product("cab", repeat=many)]
        told = ordered_names(names)
        for at, name in enumerate(told):
            for later in told[at + 1:]:
                self.assertFalse(below(name, later), (name, later))

    def test_names_that_stand_twice(self):
        self.assertEqual(ordered_names([("b",), ("a",), ("b",), ()]), [(), ("a",), ("b",), ("b",)])

    def test_none_and_one(self):
        self.assertEqual(ordered_names([]), [])
        self.assertEqual(ordered_names([("www", "firm")]), [("www", "firm")])

    def test_the_list_handed_in_is_not_changed_nor_told(self):
        names = [("b",), ("a",), ()]
        told = ordered_names(names)
        self.assertEqual(names, [("b",), ("a",), ()])
        self.assertEqual(told, [(), ("a",), ("b",)])
        told.append("mine")
        self.assertEqual(names, [("b",), ("a",), ()])
        self.assertEqual(ordered_names(names), [(), ("a",), ("b",)])
        ready = [(), ("a",)]
        self.assertIsNot(ordered_names(ready), ready)

    def test_what_is_no_list_of_names(self):
        for thing in [(), (("a",),), "a.", "", {("a",): 1}, {("a",)}, iter([("a",)]), ["a."], ["a"], [["a"]], [("a",), None],
                      [None, ("a",)], [("a", "*")], [("a",), 1], [("a",) * 7]] + odd_things():
            with self.assertRaises(BadName, msg=repr(thing)):
                ordered_names(thing)

    def test_a_refused_list_is_not_changed(self):
        names = [("b",), ("a",), ("A",)]
        kept = copy.deepcopy(names)
        with self.assertRaises(BadName):
            ordered_names(names)
        self.assertEqual(names, kept)


if __name__ == "__main__":
    unittest.main()
