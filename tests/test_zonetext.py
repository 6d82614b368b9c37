"""Promises [1] and [8]: records and zones as texts, and back."""

import unittest

from namehouse.errors import BadRecord, BadRow, BadZone
from namehouse.records import KINDS
from namehouse.zones import Zone
from namehouse.zonetext import read_zone, record_of, record_text, zone_text
from tests.things import Agreeing, odd_things, same
from tests.zonethings import FIRM, KEEPER, TOP, at, firm, rec

SIGNS = "".join(chr(place) for place in range(32, 127) if place != 37)
PAIRS = [
    (rec("www.firm", "addr", 0, 0), "www.firm. 0 addr 0"),
    (rec("", "addr", 2 ** 64 - 1, 10 ** 6), ". 1000000 addr 18446744073709551615"),
    (rec("*", "addr", 10, 7), "*. 7 addr 10"),
    (rec("*.a-1.b", "addr", 1, 2), "*.a-1.b. 2 addr 1"),
    (rec("a.b.c.d.e.f", "addr", 1, 2), "a.b.c.d.e.f. 2 addr 1"),
    (rec("a", "text", "hello", 5), "a. 5 text \"hello"),
    (rec("a", "text", "", 5), "a. 5 text \""),
    (rec("a", "text", " ", 5), "a. 5 text \" "),
    (rec("a", "text", "  two words  ", 5), "a. 5 text \"  two words  "),
    (rec("a", "text", "\"", 5), "a. 5 text \"\""),
    (rec("a", "text", "\"x\" y", 5), "a. 5 text \"\"x\" y"),
    (rec("a", "text", "b. 5 addr 7", 5), "a. 5 text \"b. 5 addr 7"),
    (rec("a", "text", "\\n", 5), "a. 5 text \"\\n"),
    (rec("a", "text", "x" * 30, 5), "a. 5 text \"" + "x" * 30),
    (rec("a", "text", " " * 30, 5), "a. 5 text \"" + " " * 30),
    (rec("a", "keeper", "ns.firm", 5), "a. 5 keeper ns.firm."),
    (rec("a", "keeper", "", 5), "a. 5 keeper ."),
    (rec("a", "other", "b", 5), "a. 5 other b."),
    (rec("a", "other", "", 5), "a. 5 other ."),
    (rec("a", "top", (0, 0), 5), "a. 5 top 0 0"),
    (rec("a", "top", (2 ** 32 - 1, 10 ** 6), 5), "a. 5 top 4294967295 1000000"),
    (rec("a", "key", 1, 5), "a. 5 key 1"),
    (rec("a", "key", 10 ** 12, 5), "a. 5 key 1000000000000"),
    (rec("a", "trust", 1, 5), "a. 5 trust 1"),
    (rec("a", "trust", 10 ** 12, 5), "a. 5 trust 1000000000000"),
    (rec("a", "seal", ("addr", 1, 0), 5), "a. 5 seal addr 1 0"),
    (rec("a", "seal", ("gap", 10 ** 12, 1000000006), 5), "a. 5 seal gap 1000000000000 1000000006"),
    (rec("a", "gap", ((), ()), 5), "a. 5 gap . none"),
    (rec("a", "gap", (("*", "b"), ("addr",)), 5), "a. 5 gap *.b. addr"),
    (rec("a", "gap", (("c", "b"), ("addr", "gap", "seal")), 5), "a. 5 gap c.b. addr,gap,seal"),
    (rec("a", "gap", (("b",), tuple(sorted(KINDS))), 5), "a. 5 gap b. addr,gap,keeper,key,other,seal,text,top,trust"),
]
NO_ROWS = """
    |a.|a. 5|a. 5 addr|a. 5 addr |a. 5  7|a.  5 addr 7| a. 5 addr 7|a. 5 addr 7 |a. 5  addr 7|a. 5 addr  7
    a 5 addr 7|.a. 5 addr 7|A. 5 addr 7|a.*. 5 addr 7|a.b 5 addr 7|a..b. 5 addr 7|abcdefghi. 5 addr 7
    a.a.a.a.a.a.a. 5 addr 7| 5 addr 7|a. addr 7|a. 5 7|5 addr 7|a. addr 5 7|a. 5 addr 7 8|a.,5,addr,7
    a. 05 addr 7|a. 5 addr 07|a. 00 addr 7|a. 5 addr 00|a. +5 addr 7|a. 5 addr +7|a. -5 addr 7|a. 5 addr -7|a. -0 addr 7
    a. 5 addr -0|a. 1000001 addr 7|a. 5 addr 18446744073709551616|a. 5 addr 100000000000000000000|a. 5 addr 0x7
    a. 5 addr 1_0|a. 1_0 addr 7|a. 5.0 addr 7|a. 5 addr 7.0|a. five addr 7|a. 5 addr seven|a. 5 addr "7|a. 5 addr b.
    a. 5 adr 7|a. 5 Addr 7|a. 5 ADDR 7|a. 5 addrs 7|a. 5 none 7|a. 5 origin a.
    a. 5 text|a. 5 text |a. 5 text x|a. 5 text x"|a. 5 text  "x|a. 5 text 'x|a. 5 text \\"x
    a. 5 keeper b|a. 5 keeper|a. 5 keeper |a. 5 keeper *.b.|a. 5 keeper *.|a. 5 keeper b. |a. 5 keeper b. c.|a. 5 keeper 7
    a. 5 keeper a.a.a.a.a.a.a.|a. 5 keeper B.|a. 5 keeper "b.|a. 5 keeper b..|a. 5 keeper ..
    a. 5 other b|a. 5 other|a. 5 other |a. 5 other *.b.|a. 5 other b. |a. 5 other b. c.|a. 5 other none
    a. 5 top 0|a. 5 top 0 0 0|a. 5 top 0  0|a. 5 top 0 0 |a. 5 top  0 0|a. 5 top 00 0|a. 5 top 0 00|a. 5 top 4294967296 0
    a. 5 top 0 1000001|a. 5 top -1 0|a. 5 top 0 -1|a. 5 top 0,0|a. 5 top +1 0|a. 5 top|a. 5 top |a. 5 top a b
    a. 5 key 0|a. 5 key 1000000000001|a. 5 key 01|a. 5 key +1|a. 5 key -1|a. 5 key|a. 5 key |a. 5 key 1 2
    a. 5 trust 0|a. 5 trust 1000000000001|a. 5 trust 01|a. 5 trust +1|a. 5 trust -1|a. 5 trust|a. 5 trust 1 2
    a. 5 seal seal 1 0|a. 5 seal addr 0 0|a. 5 seal addr 1 1000000007|a. 5 seal addr 1000000000001 0|a. 5 seal addr 01 0
    a. 5 seal addr 1 00|a. 5 seal addr 1|a. 5 seal addr|a. 5 seal|a. 5 seal 1 0|a. 5 seal addr 1 0 0|a. 5 seal addr  1 0
    a. 5 seal addr 1 0 |a. 5 seal adr 1 0|a. 5 seal  addr 1 0|a. 5 seal addr -1 0|a. 5 seal addr 1 -0|a. 5 seal 1 addr 0
    a. 5 gap b.|a. 5 gap b. |a. 5 gap none|a. 5 gap b. none |a. 5 gap b.  none|a. 5 gap b. none,addr|a. 5 gap b. addr,none
    a. 5 gap b. addr, text|a. 5 gap b. addr text|a. 5 gap b. addr,|a. 5 gap b. ,addr|a. 5 gap b. text,addr
    a. 5 gap b. addr,addr|a. 5 gap b. adr|a. 5 gap b addr|a. 5 gap addr|a. 5 gap b. None|a. 5 gap b. addr,,text|a. 5 gap
    a. 5 gap a.*. addr|a. 5 gap B. addr|a. 5 gap  b. addr|a. 5 gap b. addr. none|a. 5 gap b. -|a. 5 gap b. ()
"""


def no_rows():
    rows = [row for line in NO_ROWS.split("\n") for row in line[4:].split("|")]
    return rows + ["a. 5 text \"" + "x" * 31, "a. 5 addr 7\n", "\na. 5 addr 7", "a. 5 addr 7\nb. 5 addr 7", "a. 5 text \"x\n",
                   "a.\t5 addr 7", "a. 5 addr 7\r", "a.\n5 addr 7", "a. 5 addr 1e3", "a. 5 addr " + "9" * 300, "a. 5 addr ."]


class RecordTextTest(unittest.TestCase):
    def test_there_and_back(self):
        for record, text in PAIRS:
            self.assertTrue(same(record_text(record), text), record)
            self.assertTrue(same(record_of(text), record), text)

    def test_texts_of_all_signs(self):
        for sign in SIGNS:
            for text in (sign, sign + "x", "x" + sign, " " + sign + " ", sign * 30):
                record = rec("a.b", "text", text, 60)
                self.assertEqual(record_text(record), "a.b. 60 text \"" + text)
                self.assertTrue(same(record_of("a.b. 60 text \"" + text), record), text)

    def test_what_is_no_record(self):
        good = rec("a", "addr", 7)
        for thing in odd_things() + ["a. 5 addr 7", [good], list(good), good[:3], good + (1,), rec("a", "addr", -1), (), [], "",
                                     rec("a", "addr", True), rec("a", "addr", 7, True), rec("a.*", "addr", 7),
                                     rec("a", "keeper", "*.b"), rec("a", "gap", (("b",), ["addr"])), rec("a", "adr", 7)]:
            with self.assertRaises(BadRecord, msg=repr(thing)):
                record_text(thing)

    def test_what_is_no_row(self):
        for text in no_rows():
            self.assertIsNone(record_of(text), repr(text))

    def test_what_is_no_text(self):
        for thing in odd_things() + [rec("a", "addr", 7), ["a. 5 addr 7"], b"a. 5 addr 7", ("a.", "5", "addr", "7"), [], ()]:
            self.assertIsNone(record_of(thing), repr(thing))


class ZoneTextTest(unittest.TestCase):
    def test_a_zone(self):
        zone = firm(rec("www.firm", "addr", 9, 30), rec("www.firm", "addr", 10, 30), rec("*.firm", "text", " x ", 0),
                    rec("s.firm", "keeper", "ns.s.firm"), rec("ns.s.firm", "addr", 7), rec("b.firm", "other", "www.firm"),
                    rec("b.firm", "seal", ("other", 3, 4)), rec("b.firm", "gap", ((), ())), rec("s.firm", "trust", 8),
                    rec("firm", "key", 6), rec("x.www.firm", "gap", (("*", "firm"), ("addr", "gap")), 1))
        text = "\n".join([
            "origin firm.", "firm. 60 keeper ns.firm.", "firm. 5 key 6", "firm. 60 top 7 20", "*.firm. 0 text \" x ",
            "b.firm. 5 gap . none", "b.firm. 5 other www.firm.", "b.firm. 5 seal other 3 4", "s.firm. 5 keeper ns.s.firm.",
            "s.firm. 5 trust 8", "ns.s.firm. 5 addr 7", "www.firm. 30 addr 9", "www.firm. 30 addr 10",
            "x.www.firm. 1 gap *.firm. addr,gap"])
        self.assertTrue(same(zone_text(zone), text))
        self.check(text, zone)

    def check(self, text, zone):
        read = read_zone(text)
        self.assertIsInstance(read, Zone)
        self.assertTrue(same(read.origin, zone.origin))
        self.assertTrue(same(read.records(), zone.records()))
        self.assertEqual(zone_text(read), text)

    def test_the_smallest_ones(self):
        root = Zone((), [rec("", "top", (0, 0), 0), rec("", "keeper", "", 0)])
        self.assertTrue(same(zone_text(root), "origin .\n. 0 keeper .\n. 0 top 0 0"))
        self.check("origin .\n. 0 keeper .\n. 0 top 0 0", root)
        deep = Zone(at("a.b.c.d.e.f"), [rec("a.b.c.d.e.f", "top", (0, 0)), rec("a.b.c.d.e.f", "keeper", "b")])
        self.check("origin a.b.c.d.e.f.\na.b.c.d.e.f. 5 keeper b.\na.b.c.d.e.f. 5 top 0 0", deep)

    def test_sixty_records(self):
        zone = firm(*[rec("a" + str(k) + ".firm", "text", "\" " + str(k) + " ", k) for k in range(58)])
        self.check(zone_text(zone), zone)
        self.assertEqual(len(zone_text(zone).split("\n")), 61)

    def test_a_blank_at_the_end_of_the_last_row(self):
        zone = firm(rec("z.firm", "text", "x "))
        self.assertTrue(zone_text(zone).endswith("\nz.firm. 5 text \"x "))
        self.check(zone_text(zone), zone)


class ReadZoneTest(unittest.TestCase):
    HEAD = ["origin firm.", "firm. 60 keeper ns.firm.", "firm. 60 top 7 20"]

    def bad_row(self, rows, number):
        with self.assertRaises(BadRow, msg=repr(rows)) as caught:
            read_zone("\n".join(rows))
        self.assertTrue(same(caught.exception.row, number), (rows, caught.exception.row))

    def bad_zone(self, rows):
        with self.assertRaises(BadZone, msg=repr(rows)):
            read_zone("\n".join(rows))

    def test_what_is_no_text(self):
        for thing in odd_things() + [b"origin .", ["origin ."], firm(), Agreeing(), [], ()]:
            with self.assertRaises(BadRow, msg=repr(thing)) as caught:
                read_zone(thing)
            self.assertTrue(same(caught.exception.row, 1))

    def test_a_first_row_that_is_none(self):
        for first in ["", "firm.", "origin", "origin ", "origin firm", "Origin firm.", " origin firm.", "origin  firm.",
                      "origin firm. ", "origin *.firm.", "origin *.", "origin Firm.", "origin firm..", "origin ..", "origin:firm.",
                      "originfirm.", "origin a.a.a.a.a.a.a.", "origin firm. 5", "firm. 60 top 7 20", "orig firm.", "origin .firm.",
                      "origin \"firm.", "origin origin firm.", "origin firm.\r"]:
            self.bad_row([first] + self.HEAD[1:], 1)
            self.bad_row([first], 1)
            self.bad_row([first, "x", "y"], 1)
        self.bad_row(self.HEAD[1:], 1)
        self.bad_row([""] + self.HEAD, 1)

    def test_a_row_that_is_none(self):
        for row in no_rows():
            if "\n" not in row:
                self.bad_row(self.HEAD + [row], 4)
                self.bad_row(self.HEAD[:1] + [row] + self.HEAD[1:], 2)
                self.bad_row(self.HEAD + [row, row], 4)
        self.bad_row(self.HEAD + [""], 4)
        self.bad_row(self.HEAD[:2] + [""] + self.HEAD[2:], 3)
        self.bad_row(self.HEAD + ["", ""], 4)
        self.bad_row(self.HEAD + ["origin firm."], 4)
        self.bad_row(self.HEAD + ["z.firm. 5 addr 1", "zz.firm. 5 addr 1", "zzz.firm. 5 addr"], 6)

    def test_rows_out_of_order(self):
        self.bad_row([self.HEAD[0], self.HEAD[2], self.HEAD[1]], 3)
        self.bad_row(self.HEAD + ["firm. 5 addr 7"], 4)
        self.bad_row(self.HEAD + ["b.firm. 5 addr 10", "b.firm. 5 addr 9"], 5)
        self.bad_row(self.HEAD + ["b.firm. 5 addr 9", "a.b.firm. 5 addr 9", "b.firm. 5 text \"x"], 6)
        self.bad_row(self.HEAD + ["b.firm. 6 addr 9", "b.firm. 5 addr 9"], 5)
        self.bad_row(self.HEAD + ["b.firm. 5 gap a.z. none", "b.firm. 5 gap b.y. none"], 5)
        self.bad_row(self.HEAD + ["b.firm. 5 other a.z.", "b.firm. 5 other b.y."], 5)

    def test_a_row_told_twice(self):
        self.bad_row(self.HEAD + self.HEAD[2:], 4)
        self.bad_row(self.HEAD + ["b.firm. 5 addr 9", "b.firm. 5 addr 9"], 5)
        self.bad_row(self.HEAD + ["b.firm. 5 addr 9", "b.firm. 5 addr 9", "x"], 5)

    def test_the_first_one_that_is_due(self):
        self.bad_row(self.HEAD + ["b.firm. 5 addr 9", "a.firm. 5 addr 9", "x", "a.firm. 5 addr 9"], 5)
        self.bad_row(self.HEAD + ["b.firm. 5 addr 9", "x", "a.firm. 5 addr 9"], 5)
        # Where no zone comes of the rows, a bad row is told yet.
        self.bad_row(["origin firm.", "com. 5 addr 9", "x"], 3)
        self.bad_row(["origin firm.", "firm. 5 top 1 2", "firm. 5 top 1 3", "a.firm. 5 addr 07"], 4)

    def test_rows_that_no_zone_comes_of(self):
        self.bad_zone(["origin firm."])
        self.bad_zone(self.HEAD[:2])
        self.bad_zone([self.HEAD[0], self.HEAD[2]])
        self.bad_zone(["origin com."] + self.HEAD[1:])
        self.bad_zone(self.HEAD + ["b.firm. 5 addr 9", "b.firm. 6 addr 9"])
        self.bad_zone(self.HEAD + ["b.firm. 5 addr 9", "b.firm. 6 addr 10"])
        self.bad_zone(self.HEAD + ["b.firm. 5 other a.", "b.firm. 5 text \"x"])
        self.bad_zone(self.HEAD + ["b.firm. 5 keeper a.", "a.b.firm. 5 addr 7"])
        self.bad_zone(self.HEAD + [f"b.firm. 5 addr {k}" for k in range(59)])


if __name__ == "__main__":
    unittest.main()
