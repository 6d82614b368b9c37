"""Promises [1] and [3]: records, their kinds and their order."""

import copy
import itertools
import unittest

from namehouse.errors import BadRecord
from namehouse.records import KINDS, is_record, ordered
from tests.things import odd_things, same

SIX = ("a", "b", "c", "d", "e", "f")
TEXT_SIGNS = "".join(chr(place) for place in range(32, 127) if place != 37)
ALL_KINDS = ("addr", "gap", "keeper", "key", "other", "seal", "text", "top", "trust")

# For each kind: data that it has, and data that it has not.
GOOD = {
    "addr": [0, 1, 255, 2 ** 32, 2 ** 63, 2 ** 64 - 1],
    "text": ["", "a", " ", "~", "\\", "\"", "{}", "A text. With {signs}, and more", "x" * 30, TEXT_SIGNS[:30],
             TEXT_SIGNS[30:60], TEXT_SIGNS[60:90], TEXT_SIGNS[-30:]],
    "keeper": [(), ("a",), ("ns", "firm"), SIX],
    "other": [(), ("a",), ("www", "firm"), SIX],
    "top": [(0, 0), (1, 2), (2 ** 32 - 1, 10 ** 6), (0, 10 ** 6), (2 ** 32 - 1, 0)],
    "key": [1, 2, 10 ** 12 - 1, 10 ** 12],
    "trust": [1, 2, 10 ** 12 - 1, 10 ** 12],
    "seal": [("addr", 1, 0), ("gap", 10 ** 12, 1000000006), ("top", 7, 8), ("key", 1, 1), ("trust", 1, 1)],
    "gap": [((), ()), (("a",), ("addr",)), (("*", "a"), ("addr", "text")), (SIX, ALL_KINDS), (("*",), ("gap", "seal")),
            ((), ("seal",)), (("a",), ("addr", "gap", "seal"))],
}
BAD = {
    "addr": [-1, 2 ** 64, 2 ** 64 + 1, 10 ** 30, True, False, 1.0, "1", "", None, (), (1,), [1], b"\x01"],
    "text": ["x" * 31, "x" * 100, 1, 0, None, True, b"a", ["a"], ("a",), [], ()],
    "keeper": [("*",), ("*", "firm"), ["ns", "firm"], [], "ns.firm.", "", None, 1, True, ("A",), ("",), ("a",) * 7,
               ("a", "*"), ("a", 1), (("a",),)],
    "other": [("*",), ("*", "firm"), ["ns", "firm"], [], "ns.firm.", "", None, 1, False, ("A",), ("",), ("a",) * 7,
              ("a", "*"), ("a", 1), (("a",),)],
    "top": [(-1, 0), (0, -1), (2 ** 32, 0), (0, 10 ** 6 + 1), (True, 0), (0, True), (False, 0), (0, False), [0, 0], (0,),
            (0, 0, 0), (), 0, None, "00", (None, 0), (0, None), ("0", "0"), (0.0, 0), (0, 0.0), ((0, 0), 0)],
    "key": [0, -1, 10 ** 12 + 1, True, False, 1.0, "1", None, (1,), [1], ()],
    "trust": [0, -1, 10 ** 12 + 1, True, False, 1.0, "1", None, (1,), [1], ()],
    "seal": [("seal", 1, 0), ("addr", 0, 0), ("addr", 10 ** 12 + 1, 0), ("addr", 1, -1), ("addr", 1, 1000000007),
             ("addr", True, 0), ("addr", 1, False), ("addr", 1, True), ["addr", 1, 0], ("addr", 1), ("addr", 1, 0, 0),
             (), ("adr", 1, 0), (None, 1, 0), (0, 1, 0), (["addr"], 1, 0), ("addr", None, 0), ("addr", 1, None),
             ("addr", 1.0, 0), ("addr", 1, 0.0), ("", 1, 0), "addr", 1, None, (1, "addr", 0), ("seal", "addr", 1, 0)],
    "gap": [(("a",), ("text", "addr")), (("a",), ("addr", "addr")), (("a",), ("addr", "text", "text")),
            (("a",), ("addr", "top", "gap")), (("a",), ["addr"]), (("a",), []), [("a",), ("addr",)], (["a"], ("addr",)),
            (("a",),), (("a",), (), ()), (), (("a",), "addr"), (("a",), ""), (("a",), ("adr",)), (("a",), (None,)),
            (("a",), (1,)), (("a",), (("addr",),)), (("a",), (["addr"],)), (("A",), ()), ("a.", ()), (None, ()),
            ((), None), (("a",), ("addr", None)), (("a", "*"), ()), (("a",) * 7, ()), None, 1, "", ("addr",),
            (("addr",), ("a",)), (("a",), True)],
}
A_KIND = {kind: (("a",), kind, 5, GOOD[kind][0]) for kind in GOOD}


class KindsTest(unittest.TestCase):
    def test_the_row_of_kinds(self):
        self.assertTrue(same(KINDS, ("addr", "text", "keeper", "other", "top", "key", "trust", "seal", "gap")))


class IsRecordTest(unittest.TestCase):
    def test_data_of_each_kind(self):
        for kind in KINDS:
            for data in GOOD[kind]:
                self.assertIs(is_record((("www", "firm"), kind, 60, data)), True, (kind, data))

    def test_data_that_a_kind_has_not(self):
        for kind in KINDS:
            for data in BAD[kind] + odd_data():
                self.assertIs(is_record((("www", "firm"), kind, 60, data)), False, (kind, data))

    def test_data_of_another_kind(self):
        alike = {"key": "addr", "trust": "addr", "other": "keeper"}
        for kind, other in itertools.permutations(KINDS, 2):
            if alike.get(kind, kind) != alike.get(other, other):
                for data in GOOD[other]:
                    self.assertIs(is_record((("a",), kind, 5, data)), False, (kind, data))

    def test_each_sign_of_a_text(self):
        for sign in TEXT_SIGNS:
            self.assertIs(is_record(((), "text", 0, sign)), True, sign)

    def test_names_of_records(self):
        for kind in KINDS:
            for name in [(), ("a",), ("*",), ("*", "firm"), SIX]:
                self.assertIs(is_record((name, kind, 5, GOOD[kind][0])), True, (name, kind))
            for name in [["a"], "a.", "", None, 1, True, ("a",) * 7, ("A",), ("a", "*"), ("",), (1,), (("a",),)]:
                self.assertIs(is_record((name, kind, 5, GOOD[kind][0])), False, (name, kind))

    def test_lives(self):
        for kind in KINDS:
            for live in [0, 1, 3600, 10 ** 6 - 1, 10 ** 6]:
                self.assertIs(is_record((("a",), kind, live, GOOD[kind][0])), True, (kind, live))
            for live in [-1, 10 ** 6 + 1, 10 ** 12, True, False, 1.0, "1", None, (1,), [1]]:
                self.assertIs(is_record((("a",), kind, live, GOOD[kind][0])), False, (kind, live))

    def test_no_kinds(self):
        for kind in ["", "Addr", "ADDR", "address", "adr", " addr", "addr ", "keepers", "name", None, 0, True, ["addr"],
                     ("addr",), {}, b"addr"]:
            for data in [0, 1, "", (), ("a",), (0, 0), ("addr", 1, 0), ((), ())]:
                self.assertIs(is_record((("a",), kind, 5, data)), False, (kind, data))

    def test_a_list_for_the_tuple_and_parts_more_or_less(self):
        for record in A_KIND.values():
            self.assertIs(is_record(record), True, record)
            self.assertIs(is_record(list(record)), False, record)
            self.assertIs(is_record(record[:3]), False, record)
            self.assertIs(is_record(record[1:]), False, record)
            self.assertIs(is_record(record + (5,)), False, record)
            self.assertIs(is_record((record,)), False, record)
            self.assertIs(is_record(record[::-1]), False, record)

    def test_anything_else(self):
        for thing in odd_things() + [(), [], "", (("a",), "addr", 5), "addr", ("a", "addr", 5, 1), [A_KIND["addr"]]]:
            self.assertIs(is_record(thing), False, repr(thing))

    def test_odd_parts(self):
        for kind, record in A_KIND.items():
            for at in range(3):
                for thing in odd_things() + [[]]:
                    if not (at == 2 and thing in (0, 1, 5, 2) and type(thing) is int):
                        parts = list(record)
                        parts[at] = thing
                        self.assertIs(is_record(tuple(parts)), False, (kind, at, repr(thing)))

    def test_nothing_is_changed(self):
        record = [("a",), "gap", 5, (("a",), ["addr"])]
        kept = copy.deepcopy(record)
        is_record(record)
        is_record(tuple(record))
        self.assertEqual(record, kept)


def odd_data():
    """Odd things that are data of no kind."""
    return [thing for thing in odd_things() if type(thing) is not int]


class OrderedTest(unittest.TestCase):
    def check(self, wanted):
        """The records are ordered so, from whatever order they come in."""
        turned = [wanted[::-1], wanted[1:] + wanted[:1], wanted[1::2] + wanted[::2], wanted[::2] + wanted[1::2][::-1], wanted]
        for records in turned:
            kept = copy.deepcopy(records)
            self.assertTrue(same(ordered(records), wanted), records)
            self.assertEqual(records, kept)

    def test_by_name_ahead_of_all_else(self):
        self.check([
            ((), "trust", 9, 9), (("*",), "text", 8, "z"), (("a",), "key", 7, 8), (("*", "a"), "keeper", 6, ("z",)),
            (("z", "a"), "addr", 5, 7), (("b",), "addr", 4, 6), (("a", "b"), "addr", 3, 5), (("a", "a", "b"), "addr", 2, 4),
            (("z", "a", "b"), "addr", 1, 3), (("b", "b"), "addr", 0, 2)])

    def test_then_by_kind_as_texts(self):
        self.check([
            (("a",), "addr", 9, 9), (("a",), "gap", 8, ((), ())), (("a",), "keeper", 7, ()), (("a",), "key", 6, 5),
            (("a",), "other", 5, ()), (("a",), "seal", 4, ("addr", 1, 1)), (("a",), "text", 3, ""),
            (("a",), "top", 2, (0, 0)), (("a",), "trust", 1, 1)])

    def test_then_by_data(self):
        self.check([(("a",), "addr", live, data) for live, data in
                    [(9, 0), (8, 2), (7, 10), (6, 255), (5, 256), (0, 2 ** 64 - 1)]])
        self.check([(("a",), "text", live, data) for live, data in
                    [(9, ""), (8, " "), (7, "10"), (6, "2"), (5, "A"), (4, "Z"), (3, "a"), (2, "a "), (1, "aa"), (0, "b")]])
        self.check([(("a",), "key", live, data) for live, data in [(3, 1), (2, 9), (1, 10), (0, 10 ** 12)]])
        self.check([(("a",), "trust", live, data) for live, data in [(3, 1), (2, 9), (1, 10), (0, 10 ** 12)]])

    def test_names_in_data_as_names(self):
        for kind in ("keeper", "other"):
            self.check([((), kind, live, data) for live, data in
                        [(9, ()), (8, ("a",)), (7, ("z", "a")), (6, ("b",)), (5, ("a", "b")), (4, ("a", "a", "b")),
                         (3, ("b", "b")), (2, ("a", "c"))]])

    def test_tuples_in_data(self):
        self.check([((), "top", live, data) for live, data in
                    [(9, (0, 5)), (8, (1, 0)), (7, (1, 2)), (6, (1, 10)), (5, (2, 0)), (4, (10, 0))]])
        self.check([((), "seal", live, data) for live, data in
                    [(9, ("addr", 2, 9)), (8, ("addr", 10, 8)), (7, ("gap", 1, 7)), (6, ("gap", 1, 10)), (5, ("key", 1, 0)),
                     (4, ("trust", 1, 0))]])
        self.check([((), "gap", live, data) for live, data in
                    [(9, ((), ("text",))), (8, (("a",), ())), (7, (("a",), ("addr",))), (6, (("a",), ("addr", "gap"))),
                     (5, (("a",), ("addr", "text"))), (4, (("a",), ("gap",))), (3, (("b",), ()))]])

    def test_the_name_in_a_gaps_data_as_names(self):
        self.check([((), "gap", live, data) for live, data in
                    [(9, ((), ALL_KINDS)), (8, (("*",), ())), (7, (("z",), ("top",))), (6, (("*", "z"), ())),
                     (5, (("a", "z"), ())), (4, (("a", "z"), ("addr",))), (3, (("a", "z"), ("addr", "text"))),
                     (2, (("a", "a", "z"), ())), (1, (("b", "z"), ())), (0, (("a", "zz"), ()))]])
        self.check([((), "gap", 5, (("b", "y"), ())), ((), "gap", 5, (("a", "z"), ()))])
        self.check([((), "gap", 5, (("z",), ("text",))), ((), "gap", 5, (("a", "z"), ("addr",)))])

    def test_then_by_live(self):
        self.check([(("a",), "addr", live, 7) for live in [0, 1, 2, 9, 10, 60, 100, 10 ** 6]]
                   + [(("a",), "addr", live, 8) for live in [0, 3]])

    def test_records_that_stand_twice(self):
        record, other = A_KIND["addr"], A_KIND["text"]
        self.assertTrue(same(ordered([other, record, other, record]), [record, record, other, other]))

    def test_none_and_one(self):
        self.assertTrue(same(ordered([]), []))
        self.assertTrue(same(ordered([A_KIND["gap"]]), [A_KIND["gap"]]))

    def test_what_is_told_is_a_new_list(self):
        records = [A_KIND["addr"], A_KIND["text"]]
        told = ordered(records)
        self.assertIsNot(told, records)
        told.clear()
        self.assertEqual(records, [A_KIND["addr"], A_KIND["text"]])
        self.assertEqual(ordered(records), records)

    def test_what_is_no_list_of_records(self):
        record = A_KIND["addr"]
        for thing in odd_things() + [(), (record,), record, {record}, {record: 1}, iter([record]), "", [None], [record, None],
                                     [None, record], [list(record)], [[record]], [record[:3]], [("a",)],
                                     [(("a",), "addr", 5, -1)], [record, (("a",), "addr", True, 1)],
                                     [(("a", "*"), "addr", 5, 1)], [(("a",), "keeper", 5, ("*",))]]:
            with self.assertRaises(BadRecord, msg=repr(thing)):
                ordered(thing)

    def test_one_record_that_is_none_of_any_kind(self):
        for kind in KINDS:
            for data in BAD[kind]:
                records = [A_KIND["addr"], (("a",), kind, 5, data)]
                with self.assertRaises(BadRecord, msg=repr(records)):
                    ordered(records)


if __name__ == "__main__":
    unittest.main()
