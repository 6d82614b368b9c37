"""Promises [1] and [18]: the desk."""

import random
import unittest

from namehouse.desk import answered, played
from namehouse.house import House
from namehouse.zonetext import zone_text
from tests.housethings import COM, COPY, FIRM, ROOT, ROOTS, firm_zone, house, root_zone
from tests.things import odd_things, same
from tests.zonethings import at, rec

NO_LINE = ["no line"]
REFUSED = ["refused"]


def state(one):
    """All that can be asked of a house, but its clock's past."""
    zones = []
    for addr in (ROOT, FIRM, COM, COPY):
        try:
            zones.append(one.zone(addr).records())
        except ValueError:
            zones.append(None)
    return one.turn(), one.end(), one.sent(), one.book(), zones


class DeskCase(unittest.TestCase):
    def setUp(self):
        self.one = house()

    def tells(self, line, *wanted):
        told = answered(self.one, line)
        self.assertTrue(same(told, list(wanted)), (line, told, wanted))

    def stays(self, line, wanted):
        """The line is answered so, and changes nothing."""
        kept = state(self.one)
        told = answered(self.one, line)
        self.assertTrue(same(told, wanted), (line, told))
        self.assertTrue(same(state(self.one), kept), line)


class LinesTest(DeskCase):
    def test_turns(self):
        self.tells("turns 1", "turn 1")
        self.tells("turns 2", "turn 3")
        self.tells("turns 30", "turn 33")
        self.assertEqual(self.one.turn(), 33)

    def test_ask_and_end(self):
        self.tells("end", "going")
        self.tells("ask www.firm. addr", "asked")
        self.assertEqual(self.one.sent(), 1)
        self.tells("turns 3", "turn 3")
        self.tells("end", "going")
        self.tells("turns 1", "turn 4")
        self.tells("end", "good", "www.firm. 6 addr 7", "www.firm. 6 addr 8")
        self.tells("end", "good", "www.firm. 6 addr 7", "www.firm. 6 addr 8")
        self.tells("book", "4")
        self.tells("ask a.firm. addr", "asked")
        self.tells("turns 30", "turn 34")
        self.tells("end", "good", "a.firm. 9 other www.firm.", "www.firm. 6 addr 7", "www.firm. 6 addr 8")

    def test_other_ends(self):
        for line, wanted in [("ask www.firm. text", "empty"), ("ask q.firm. addr", "lacking"), ("ask . text", "empty"), ("ask ring.firm. addr", "fault ring"),
                             ("ask *.firm. key", "lacking")]:
            self.tells(line, "asked")
            answered(self.one, "turns 30")
            self.tells("end", wanted)
        self.tells(f"sleep {ROOT}", "done")
        answered(self.one, "turns 30")
        self.tells("ask net. addr", "asked")
        answered(self.one, "turns 30")
        self.tells("end", "fault dead")
        self.one = House([], [(at("r"), k) for k in range(30)])
        self.tells("ask . addr", "asked")
        for _ in range(3):
            answered(self.one, "turns 30")
        self.tells("end", "fault many")

    def test_zone(self):
        self.tells(f"zone {FIRM}", *zone_text(firm_zone()).split("\n"))
        self.assertEqual(answered(self.one, f"zone {FIRM}")[0], "origin firm.")
        self.assertEqual(answered(self.one, f"zone {ROOT}")[:2], ["origin .", ". 50 keeper r."])

    def test_put_and_take(self):
        self.tells("put 2 n.firm. 5 addr 1", "done")
        self.assertIn("n.firm. 5 addr 1", answered(self.one, "zone 2"))
        self.assertIn("firm. 50 top 6 3", answered(self.one, "zone 2"))
        self.tells("put 2 n.firm. 5 addr 2", "done")
        self.tells("take 2 n.firm. 5 addr 1", "done")
        self.assertNotIn("n.firm. 5 addr 1", answered(self.one, "zone 2"))
        self.assertIn("n.firm. 5 addr 2", answered(self.one, "zone 2"))
        self.assertIn("firm. 50 top 8 3", answered(self.one, "zone 2"))
        self.tells("put 2 g.firm. 5 gap firm. addr,gap", "done")
        self.tells("put 2 g.firm. 5 seal gap 1 2", "done")
        self.tells("put 1 *. 0 key 1000000000000", "done")

    def test_texts_with_blanks(self):
        for text in ["", " ", "   ", " a", "a ", " a  b   c ", "\"", "a \"b\" ", "done", "5 text \"x"]:
            row = f"n.firm. 5 text \"{text}"
            self.tells("put 2 " + row, "done")
            self.assertIn(rec("n.firm", "text", text), self.one.zone(2).records())
            self.assertIn(row, answered(self.one, "zone 2"))
            self.tells("ask n.firm. text", "asked")
            answered(self.one, "turns 30")
            self.tells("end", "good", row)
            answered(self.one, "turns 30")
            self.tells("take 2 " + row, "done")
            self.assertNotIn(rec("n.firm", "text", text), self.one.zone(2).records())

    def test_follow_sleep_and_wake(self):
        self.one.copy(COPY, FIRM)
        self.tells("follow 9", "same")
        self.tells("put 2 n.firm. 5 addr 1", "done")
        self.tells("follow 9", "steps")
        for k in range(6):
            self.tells(f"put 2 n.firm. 5 addr {k + 2}", "done")
        self.tells("follow 9", "all")
        for line in ("sleep 9", "sleep 9", "wake 9", "wake 2", "sleep 2"):
            self.tells(line, "done")
        self.tells("ask www.firm. addr", "asked")
        answered(self.one, "turns 30")
        self.tells("end", "fault dead")
        self.tells("wake 2", "done")
        self.tells("ask www.firm. addr", "asked")
        answered(self.one, "turns 30")
        self.tells("end", "good", "www.firm. 6 addr 7", "www.firm. 6 addr 8")

    def test_book(self):
        self.tells("book", "0")
        answered(self.one, "ask www.firm. addr")
        self.tells("book", "1")
        answered(self.one, "turns 9")
        self.tells("book", "4")

    def test_the_greatest_numbers(self):
        self.one.copy(2 ** 64 - 1, ROOT)
        self.tells(f"follow {2 ** 64 - 1}", "same")
        self.tells(f"sleep {2 ** 64 - 1}", "done")
        self.assertEqual(len(str(2 ** 64 - 1)), 20)


class RefusedTest(DeskCase):
    def test_what_the_house_refuses(self):
        self.one.copy(COPY, FIRM)
        answered(self.one, "ask www.firm. addr")
        for word in ("zone", "sleep", "wake", "follow"):
            for addr in (0, 4, 10, 99, 2 ** 64, 10 ** 20 - 1):
                self.stays(f"{word} {addr}", REFUSED)
        self.stays(f"follow {ROOT}", REFUSED)
        for word in ("put", "take"):
            for addr in (0, 4, COPY, 2 ** 64, 10 ** 20 - 1):
                self.stays(f"{word} {addr} n.firm. 5 addr 1", REFUSED)

    def test_changes_that_cant_be_made(self):
        for line in ["put 2 www.firm. 6 addr 7", "put 2 www.firm. 5 addr 9", "put 2 n.com. 5 addr 1", "put 2 firm. 50 top 6 3", "take 2 firm. 50 top 5 3",
                     "take 2 n.firm. 5 addr 1", "take 2 www.firm. 5 addr 7", "take 2 firm. 30 keeper ns.firm.", "put 2 a.firm. 5 text \"x",
                     "put 2 *.firm. 5 keeper x.", "put 1 x.com. 5 text \"x"]:
            self.stays(line, REFUSED)


class NoLineTest(DeskCase):
    def no(self, *lines):
        for line in lines:
            self.stays(line, NO_LINE)

    def setUp(self):
        self.one = house()
        answered(self.one, "ask www.firm. addr")

    def test_other_words(self):
        self.no("", " ", "turn 1", "TURNS 1", "Turns 1", "asks www.firm. addr", "ends", "going", "done", "books", "copy 9 2", "change 2", "go", "quit", "zones 2",
                "follows 9", "end.", "turns1", "ask", "turns", "zone", "put", "take", "follow", "sleep", "wake", "no line", "refused", "__class__", "end 1",
                "book 1", "turns 1 1", "zone 2 2", "sleep 2 2", "ask www.firm. addr addr", "wake 2 x", "follow 9 9")

    def test_blanks(self):
        self.no(" end", "end ", " end ", "book ", " book", "turns  1", "turns 1 ", " turns 1", "turns ", "ask  www.firm. addr", "ask www.firm.  addr",
                "ask www.firm. addr ", " ask www.firm. addr", "ask ", "ask www.firm. ", "ask www.firm.", "zone  2", "zone 2 ", " zone 2", "zone ",
                "put  2 n.firm. 5 addr 1", "put 2  n.firm. 5 addr 1", "put 2 n.firm.  5 addr 1", "put 2 n.firm. 5 addr 1 ", "put 2 n.firm. 5  addr 1",
                "put 2 n.firm. 5 text  \"x", " put 2 n.firm. 5 addr 1", "put ", "put 2", "put 2 ", "take  2 www.firm. 6 addr 7", "take 2 www.firm. 6 addr 7 ",
                "sleep 2 ", "wake  2", "follow 9 ", "turns\t1", "end\n", "ask www.firm. addr\n")

    def test_what_are_no_names(self):
        for name in ["www.firm", "www", "", "..", ".firm.", "www..firm.", "WWW.firm.", "a.*.firm.", "a.b.c.d.e.f.g.", "abcdefghi.", "a_b.", "*a.", "a,b."]:
            self.no(f"ask {name} addr", f"put 2 {name} 5 addr 1", f"put 2 n.firm. 5 other {name}")

    def test_what_are_no_kinds(self):
        for kind in ["adr", "ADDR", "addrs", "Addr", "none", "good", "addr,text", "1"]:
            self.no(f"ask www.firm. {kind}", f"put 2 n.firm. 5 {kind} 1", f"take 2 www.firm. 6 {kind} 7")

    def test_what_are_no_records(self):
        for row in ["n.firm. 5 addr", "n.firm. addr 1", "n.firm. 5 addr -1", "n.firm. 5 addr 01", "n.firm. 05 addr 1", "n.firm. 1000001 addr 1",
                    "n.firm. 5 text x", "n.firm. 5 text", "n.firm. 5 text \"" + "x" * 31, "n.firm. 5 addr 18446744073709551616", "n.firm. 5 top 1",
                    "n.firm. 5 key 0", "n.firm. 5 seal seal 1 1", "n.firm. 5 gap firm.", "n.firm. 5 gap firm. text,addr", "n.firm. 5 keeper *.x.",
                    "n.firm. 5 addr +1", "n.firm. 5 addr 1.0", "x", "origin firm."]:
            self.no(f"put 2 {row}", f"take 2 {row}", f"put 99 {row}")

    def test_what_are_no_numbers(self):
        for number in ["-1", "+1", "01", "00", "002", "1.0", "1e1", "two", "x", "0x1", "1_0", "1" * 21, "0" * 20 + "2", "9" * 30, "2,", "\"2"]:
            self.no(f"turns {number}", f"zone {number}", f"sleep {number}", f"wake {number}", f"follow {number}", f"put {number} n.firm. 5 addr 1",
                    f"take {number} www.firm. 6 addr 7")

    def test_numbers_of_turns(self):
        self.no("turns 0", "turns 31", "turns 100", "turns 99999999999999999999", "turns 18446744073709551616")

    def test_what_are_no_texts(self):
        self.no(*odd_things(), ["end"], ("end",), b"end", ["turns", "1"], 1, None)

    def test_what_goes_on_goes_on(self):
        self.tells("turns 4", "turn 4")
        self.tells("end", "good", "www.firm. 6 addr 7", "www.firm. 6 addr 8")


class PlayedTest(DeskCase):
    LINES = ["end", "ask www.firm. addr", "turns 4", "end", "x", "put 2 n.firm. 5 text \" a ", "zone 2", "sleep 7", None, "book", "follow 9", "sleep 2",
             "ask n.firm. text", "turns 30", "end", "wake 2", "turns 31"]

    def test_the_same_as_line_by_line(self):
        lines = list(self.LINES)
        told = played(self.one, lines)
        self.assertTrue(same(lines, self.LINES))
        other = house()
        self.assertTrue(same(told, [answered(other, line) for line in self.LINES]))
        self.assertTrue(same(state(other), state(self.one)))
        self.assertEqual(told[3], ["good", "www.firm. 6 addr 7", "www.firm. 6 addr 8"])
        self.assertEqual([told[k] for k in (4, 7, 8, 10, 16)], [NO_LINE, REFUSED, NO_LINE, REFUSED, NO_LINE])
        self.assertTrue(same(played(self.one, []), []))

    def test_lists_may_be_changed(self):
        lines = ["ask www.firm. addr", "turns 4", "end", "zone 1", "x"]
        told = played(self.one, lines)
        lines.clear()
        for part in told:
            part.append("y")
            part.reverse()
        told.clear()
        self.tells("end", "good", "www.firm. 6 addr 7", "www.firm. 6 addr 8")
        self.tells("x", "no line")
        answered(self.one, "x").append("y")
        self.tells("x", "no line")
        answered(self.one, "zone 4").append("y")
        self.tells("zone 4", "refused")
        self.tells("zone 1", *zone_text(root_zone()).split("\n"))

    def test_drawn_lines(self):
        draw = random.Random(18)
        words = "turns ask end zone put take follow sleep wake book 1 2 3 9 30 31 0 01 . www.firm. firm. n.firm. addr text 5 6 7 \"x x".split() + ["", " "]
        seen = {}
        for _ in range(3000):
            line = " ".join(draw.choice(words) for _ in range(draw.randrange(1, 7)))
            if draw.randrange(3) == 0:
                line = draw.choice(["put", "take"]) + f" {draw.randrange(4)} n.firm. 5 addr {draw.randrange(4)}"
            kept = state(self.one)
            told = answered(self.one, line)
            self.assertIsInstance(told, list)
            self.assertTrue(told and all(type(row) is str for row in told), line)
            if told in (NO_LINE, REFUSED):
                self.assertTrue(same(state(self.one), kept), line)
            seen[told[0].split(" ")[0]] = True
        self.assertEqual({"turn", "done", "no", "refused", "going"} - set(seen), set())

    def test_each_house_for_itself(self):
        other = House([(ROOT, root_zone())], ROOTS)
        answered(self.one, "turns 5")
        self.assertEqual(answered(other, "turns 1"), ["turn 1"])


if __name__ == "__main__":
    unittest.main()
