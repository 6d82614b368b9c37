"""Promises [1] and [12]: what is kept, for how long, and what goes for it."""

import copy
import random
import unittest

from namehouse.errors import BadName, BadRecord, BadTurn
from namehouse.memory import Memory
from namehouse.names import ordered_names
from namehouse.records import KINDS, ordered
from tests.things import Agreeing, odd_things, same
from tests.zonethings import at, rec

WWW, FIRM, A, B = at("www.firm"), at("firm"), at("a"), at("b")
NO_TURNS = [None, True, False, -1, -10 ** 9, 1.0, "1", "", b"1", [1], (1,), {}, Agreeing(), object()]
NO_NAMES = odd_things() + ["www.firm.", ["www", "firm"], ("a", "*"), ("a",) * 7]
NO_KINDS = odd_things() + ["", "adr", "ADDR", ("addr",), ["addr"], "set", "lacking"]
LONGEST = 10 ** 6


class MemoryCase(unittest.TestCase):
    def found(self, memory, name, kind, turn, wanted):
        self.assertTrue(same(memory.find(at(name), kind, turn), wanted), (memory.find(at(name), kind, turn), wanted))

    def keep(self, memory, records, turn):
        kept = copy.deepcopy(records)
        self.assertIsNone(memory.keep(records, turn))
        self.assertTrue(same(records, kept))


class LifeTest(MemoryCase):
    def test_an_empty_one(self):
        memory = Memory()
        self.found(memory, "www.firm", "addr", 0, None)
        self.assertTrue(same(memory.many(0), 0))

    def test_a_set_by_its_life(self):
        for live in (1, 2, 5, LONGEST):
            memory = Memory()
            self.keep(memory, [rec("www.firm", "addr", 7, live)], 10)
            for turns in sorted({0, 1, live // 2, live - 1} - {live}):
                self.found(memory, "www.firm", "addr", 10 + turns, ("set", [rec("www.firm", "addr", 7, live - turns)]))
                self.assertEqual(memory.many(10 + turns), 1)
            for turns in (live, live + 1, live + 100):
                self.found(memory, "www.firm", "addr", 10 + turns, None)
                self.assertEqual(memory.many(10 + turns), 0)

    def test_a_set_of_unlike_lives(self):
        memory = Memory()
        self.keep(memory, [rec("a", "text", "z", 3), rec("a", "text", "y", 9), rec("a", "text", "x", LONGEST)], 0)
        self.found(memory, "a", "text", 0, ("set", [rec("a", "text", "x", LONGEST), rec("a", "text", "y", 9), rec("a", "text", "z", 3)]))
        self.found(memory, "a", "text", 2, ("set", [rec("a", "text", "x", LONGEST - 2), rec("a", "text", "y", 7), rec("a", "text", "z", 1)]))
        self.found(memory, "a", "text", 3, None)

    def test_one_data_of_unlike_lives(self):
        memory = Memory()
        self.keep(memory, [rec("a", "addr", 1, 9), rec("a", "addr", 1, 4)], 2)
        self.found(memory, "a", "addr", 4, ("set", [rec("a", "addr", 1, 2), rec("a", "addr", 1, 7)]))
        self.found(memory, "a", "addr", 6, None)

    def test_none_and_lacking(self):
        for none in (1, 4, LONGEST):
            memory = Memory()
            self.assertIsNone(memory.lack(A, "addr", none, 5))
            self.assertIsNone(memory.lack(B, None, none, 5))
            for turn in (5, 5 + none - 1):
                self.found(memory, "a", "addr", turn, ("empty",))
                self.found(memory, "a", "text", turn, None)
                for kind in KINDS:
                    self.found(memory, "b", kind, turn, ("lacking",))
                self.assertEqual(memory.many(turn), 2)
            for kind in KINDS:
                self.found(memory, "a", kind, 5 + none, None)
                self.found(memory, "b", kind, 5 + none, None)
            self.assertEqual(memory.many(5 + none), 0)

    def test_other_names_and_kinds(self):
        memory = Memory()
        self.keep(memory, [rec("www.firm", "addr", 7)], 0)
        memory.lack(A, None, 5, 0)
        for name in ("firm", "x.www.firm", "www", "*.firm", "", "b", "b.a"):
            for kind in KINDS:
                self.found(memory, name, kind, 0, None)
        for kind in KINDS[1:]:
            self.found(memory, "www.firm", kind, 0, None)

    def test_a_life_of_nought(self):
        memory = Memory()
        self.keep(memory, [rec("a", "addr", 7, 0)], 0)
        self.keep(memory, [rec("a", "text", "x", 0), rec("a", "text", "y", 5)], 0)
        memory.lack(A, "key", 0, 0)
        memory.lack(B, None, 0, 0)
        for kind in KINDS:
            self.found(memory, "a", kind, 0, None)
            self.found(memory, "b", kind, 0, None)
        self.assertEqual(memory.many(0), 0)

    def test_each_kind_in_order(self):
        memory = Memory()
        sets = [[rec("a", "addr", k) for k in (9, 10, 2)], [rec("a", "keeper", name) for name in ("a.b", "b.a", "b")],
                [rec("a", "gap", (("b", "y"), ())), rec("a", "gap", (("a", "z"), ()))],
                [rec("a", "seal", ("text", 2, 1)), rec("a", "seal", ("addr", 2, 1)), rec("a", "seal", ("addr", 1, 9))],
                [rec("a", "top", (2, 1)), rec("a", "top", (1, 2))]]
        for records in sets:
            self.keep(memory, records, 3)
        for records in sets:
            self.found(memory, "a", records[0][1], 3, ("set", ordered(records)))
        self.assertEqual(memory.many(3), len(sets))


class PlaceTest(MemoryCase):
    def test_what_is_heard_takes_the_place_of_what_was_kept(self):
        memory = Memory()
        self.keep(memory, [rec("a", "addr", 1, 100)], 0)
        self.keep(memory, [rec("a", "text", "x", 100)], 0)
        self.keep(memory, [rec("a", "addr", 2, 3)], 1)
        self.found(memory, "a", "addr", 1, ("set", [rec("a", "addr", 2, 3)]))
        self.found(memory, "a", "addr", 4, None)
        memory.lack(A, "addr", 2, 5)
        self.found(memory, "a", "addr", 5, ("empty",))
        self.keep(memory, [rec("a", "addr", 3, 9)], 6)
        self.found(memory, "a", "addr", 6, ("set", [rec("a", "addr", 3, 9)]))
        self.found(memory, "a", "text", 6, ("set", [rec("a", "text", "x", 94)]))
        self.assertEqual(memory.many(6), 2)

    def test_lives_of_nought_take_the_place_too(self):
        memory = Memory()
        self.keep(memory, [rec("a", "addr", 1, 100)], 0)
        self.keep(memory, [rec("a", "addr", 2, 0)], 1)
        self.found(memory, "a", "addr", 1, None)
        self.keep(memory, [rec("a", "addr", 1, 100)], 1)
        memory.lack(A, "addr", 0, 2)
        self.found(memory, "a", "addr", 2, None)
        self.keep(memory, [rec("a", "addr", 1, 100)], 2)
        self.keep(memory, [rec("a", "text", "x", 100)], 2)
        self.keep(memory, [rec("b", "text", "x", 100)], 2)
        memory.lack(A, None, 0, 3)
        self.assertEqual(memory.many(3), 1)
        self.found(memory, "b", "text", 3, ("set", [rec("b", "text", "x", 99)]))

    def test_lacking_lets_go_all_of_the_name(self):
        memory = Memory()
        self.keep(memory, [rec("a", "addr", 1, 100)], 0)
        memory.lack(A, "text", 100, 0)
        memory.lack(A, "key", 100, 0)
        self.keep(memory, [rec("b.a", "addr", 1, 100)], 0)
        memory.lack(A, None, 5, 1)
        for kind in KINDS:
            self.found(memory, "a", kind, 1, ("lacking",))
            self.found(memory, "a", kind, 6, None)
        self.assertEqual(memory.many(1), 2)
        self.found(memory, "b.a", "addr", 6, ("set", [rec("b.a", "addr", 1, 94)]))

    def test_a_kind_heard_lets_go_that_the_name_is_lacking(self):
        for live in (0, 9):
            memory = Memory()
            memory.lack(A, None, 100, 0)
            memory.lack(B, None, 100, 0)
            self.keep(memory, [rec("a", "addr", 1, live)], 1)
            self.found(memory, "a", "addr", 1, ("set", [rec("a", "addr", 1, 9)]) if live else None)
            self.found(memory, "a", "text", 1, None)
            self.found(memory, "b", "text", 1, ("lacking",))
            memory.lack(A, None, 100, 2)
            memory.lack(A, "addr", live, 3)
            self.found(memory, "a", "addr", 3, ("empty",) if live else None)
            self.found(memory, "a", "text", 3, None)

    def test_heard_again(self):
        memory = Memory()
        memory.lack(A, None, 3, 0)
        memory.lack(A, None, 3, 2)
        memory.lack(B, "addr", 3, 0)
        memory.lack(B, "addr", 3, 2)
        self.found(memory, "a", "addr", 4, ("lacking",))
        self.found(memory, "b", "addr", 4, ("empty",))
        self.assertEqual(memory.many(4), 2)


class RoomTest(MemoryCase):
    def full(self, live=50):
        """A memory of sixty rows, each ending later than the one ahead."""
        memory = Memory()
        for k in range(60):
            self.keep(memory, [rec(f"n{k}", "addr", k, live + k)], 0)
        self.assertEqual(memory.many(0), 60)
        return memory

    def standing(self, memory, turn):
        return [k for k in range(60) if memory.find((f"n{k}",), "addr", turn) is not None]

    def test_one_more_than_sixty(self):
        memory = self.full()
        self.keep(memory, [rec("m", "addr", 1)], 1)
        self.assertEqual(memory.many(1), 60)
        self.assertEqual(self.standing(memory, 1), list(range(1, 60)))
        self.found(memory, "m", "addr", 1, ("set", [rec("m", "addr", 1)]))
        # The new one ends first now.
        memory.lack(at("l"), None, 9, 1)
        self.found(memory, "m", "addr", 1, None)
        self.assertEqual(self.standing(memory, 1), list(range(1, 60)))
        memory.lack(at("k"), "addr", 9, 2)
        self.found(memory, "l", "addr", 2, None)
        self.assertEqual(memory.many(2), 60)

    def test_the_new_one_itself_stays_though_it_ends_first(self):
        memory = self.full()
        self.keep(memory, [rec("m", "addr", 1, 1)], 0)
        self.found(memory, "m", "addr", 0, ("set", [rec("m", "addr", 1, 1)]))
        self.assertEqual(self.standing(memory, 0), list(range(1, 60)))

    def test_rows_that_stand_no_more_go_first(self):
        memory = self.full()
        for turn in (50, 52):
            memory = self.full()
            left = list(range(turn - 49, 60))
            for k in range(60 - len(left)):
                self.keep(memory, [rec(f"m{k}", "addr", 1, 500)], turn)
                self.assertEqual(self.standing(memory, turn), left)
            self.assertEqual(memory.many(turn), 60)
            self.keep(memory, [rec("l", "addr", 1, 1)], turn)
            self.assertEqual(self.standing(memory, turn), left[1:])

    def test_what_is_kept_heard_again_lets_none_else_go(self):
        memory = self.full()
        self.keep(memory, [rec("n7", "addr", 1, 3)], 1)
        memory.lack(at("n8"), "addr", 3, 1)
        memory.lack(at("n9"), None, 3, 1)
        memory.lack(at("n9"), None, 4, 1)
        self.assertEqual(memory.many(1), 60)
        self.assertEqual(self.standing(memory, 1), list(range(60)))
        # That the name is lacking goes for its kind, so there is room for it.
        memory.lack(at("n9"), "text", 4, 1)
        self.assertEqual(memory.many(1), 60)
        self.found(memory, "n0", "addr", 1, ("set", [rec("n0", "addr", 0, 49)]))

    def test_a_life_of_nought_lets_none_else_go(self):
        memory = self.full()
        self.keep(memory, [rec("m", "addr", 1, 0)], 1)
        memory.lack(at("m"), "addr", 0, 1)
        memory.lack(at("m"), None, 0, 1)
        self.assertEqual(memory.many(1), 60)

    def test_several_kinds_let_go_at_once_make_room(self):
        memory = Memory()
        for kind in KINDS[:4]:
            memory.lack(A, kind, 100, 0)
        for k in range(56):
            memory.lack((f"n{k}",), "addr", 50, 0)
        memory.lack(A, None, 100, 0)
        self.assertEqual(memory.many(0), 57)
        for k in range(3):
            memory.lack((f"m{k}",), "addr", 50, 0)
        self.assertEqual(memory.many(0), 60)

    def test_of_several_that_end_first_the_first_by_name(self):
        names = ["b", "a.b", "*.c", "c.b", "a", "z.a"]
        memory = Memory()
        for name in names:
            memory.lack(at(name), "text", 10, 0)
        for k in range(54):
            memory.lack((f"n{k}",), "text", 11, 0)
        for place, name in enumerate(ordered_names([at(name) for name in names])):
            memory.lack((f"m{place}",), "text", 20, 1)
            self.assertIsNone(memory.find(name, "text", 1), name)
            self.assertEqual(memory.many(1), 60)

    def test_lacking_ahead_of_kinds_and_kinds_as_texts(self):
        memory = Memory()
        for kind in KINDS:
            memory.lack(B, kind, 10, 0)
        memory.lack(A, None, 10, 0)
        memory.lack(at("c"), None, 10, 0)
        for k in range(49):
            memory.lack((f"n{k}",), "text", 11, 0)
        gone = [(A, "addr")] + [(B, kind) for kind in sorted(KINDS)] + [(at("c"), "addr")]
        for place, (name, kind) in enumerate(gone):
            self.assertIsNotNone(memory.find(name, kind, 1))
            memory.lack((f"m{place}",), "text", 20, 1)
            self.assertIsNone(memory.find(name, kind, 1))
            self.assertEqual(memory.many(1), 60)


class OwnTest(MemoryCase):
    def test_lists_may_be_changed(self):
        memory = Memory()
        records = [rec("a", "addr", 2), rec("a", "addr", 1)]
        memory.keep(records, 0)
        records.clear()
        wanted = ("set", [rec("a", "addr", 1), rec("a", "addr", 2)])
        told = memory.find(A, "addr", 0)
        self.assertTrue(same(told, wanted))
        memory.find(A, "addr", 0)[1].clear()
        self.found(memory, "a", "addr", 0, wanted)
        memory.lack(A, None, 5, 1)
        self.assertTrue(same(told, wanted))

    def test_two_memories(self):
        first, second = Memory(), Memory()
        first.lack(A, None, 5, 0)
        self.found(second, "a", "addr", 0, None)


class RefusalTest(MemoryCase):
    def setUp(self):
        self.memory = Memory()
        self.memory.keep([rec("a", "addr", 1)], 3)
        self.memory.lack(B, None, 9, 3)

    def tearDown(self):
        self.found(self.memory, "a", "addr", 3, ("set", [rec("a", "addr", 1)]))
        self.found(self.memory, "b", "addr", 3, ("lacking",))
        self.assertEqual(self.memory.many(3), 2)

    def refused(self, error, act, *things):
        with self.assertRaises(error, msg=repr(things)) as caught:
            act(*things)
        self.assertIs(type(caught.exception), error)

    def test_keep(self):
        one = rec("b", "addr", 1)
        for thing in odd_things() + [[], [one, one], [one, rec("b", "text", "x")], [one, rec("c", "addr", 1)], (one,), one, [list(one)],
                                     [one[:3]], {one: 1}, [one, None], [rec("b", "addr", True)], [rec("b", "addr", 1, -1)],
                                     [rec("b", "addr", 1, LONGEST + 1)], [one, rec("b", "addr", 2), one], iter([one])]:
            for turn in [3] + NO_TURNS:
                self.refused(BadRecord, self.memory.keep, thing, turn)
        for turn in NO_TURNS:
            self.refused(BadTurn, self.memory.keep, [rec("a", "addr", 2)], turn)

    def test_lack(self):
        for name in NO_NAMES:
            for kind, none, turn in [("addr", 1, 3), (None, 1, 3), ("adr", -1, None)]:
                self.refused(BadName, self.memory.lack, name, kind, none, turn)
        for kind in NO_KINDS:
            if kind is not None:
                self.refused(BadRecord, self.memory.lack, A, kind, 1, 3)
                self.refused(BadRecord, self.memory.lack, A, kind, None, None)
        for none in NO_TURNS + [LONGEST + 1]:
            for kind in ("addr", None):
                self.refused(BadRecord, self.memory.lack, A, kind, none, 3)
                self.refused(BadRecord, self.memory.lack, A, kind, none, True)
        for turn in NO_TURNS:
            self.refused(BadTurn, self.memory.lack, A, "addr", 1, turn)
            self.refused(BadTurn, self.memory.lack, A, None, 1, turn)

    def test_find(self):
        for name in NO_NAMES:
            self.refused(BadName, self.memory.find, name, "addr", 3)
            self.refused(BadName, self.memory.find, name, None, None)
        for kind in NO_KINDS:
            self.refused(BadRecord, self.memory.find, A, kind, 3)
            self.refused(BadRecord, self.memory.find, A, kind, None)
        for turn in NO_TURNS:
            self.refused(BadTurn, self.memory.find, A, "addr", turn)

    def test_many(self):
        for turn in NO_TURNS:
            self.refused(BadTurn, self.memory.many, turn)

    def test_late_turns(self):
        memory = Memory()
        memory.keep([rec("a", "addr", 1)], 10 ** 3000)
        self.found(memory, "a", "addr", 10 ** 3000 + 4, ("set", [rec("a", "addr", 1, 1)]))
        self.assertEqual(memory.many(10 ** 3000 + 5), 0)


class SlowMemory:
    """The same, by a list of rows in the order in which they were heard."""

    def __init__(self):
        self.rows = []

    def hear(self, name, kind, life, turn, records):
        self.rows = [r for r in self.rows if r["name"] != name or (kind is not None and r["kind"] not in (kind, None))]
        if life == 0:
            return
        if len(self.rows) == 60:
            self.rows = [r for r in self.rows if turn < r["end"]]
        if len(self.rows) == 60:
            by_rank = {(r["end"], tuple(reversed(r["name"])), "" if r["kind"] is None else r["kind"]): r for r in self.rows}
            self.rows.remove(by_rank[min(by_rank)])
        self.rows.append({"name": name, "kind": kind, "end": turn + life, "heard": turn, "records": records})

    def find(self, name, kind, turn):
        for row in self.rows:
            if row["name"] == name and row["kind"] in (kind, None) and turn < row["end"]:
                if row["kind"] is None:
                    return ("lacking",)
                if not row["records"]:
                    return ("empty",)
                return "set", [(n, k, live - turn + row["heard"], data) for n, k, live, data in row["records"]]
        return None

    def many(self, turn):
        return len([r for r in self.rows if turn < r["end"]])


class DrawnTest(MemoryCase):
    def test_drawn(self):
        draw = random.Random(12)
        names = [(label,) + rest for label in "abcde" for rest in ((), ("x",), ("y",), ("a", "x"))]
        kinds = ["addr", "text", "key", "trust", "other"]
        data = {"addr": [1, 2, 3], "text": ["a", "b"], "key": [1, 2], "trust": [5], "other": [("a",)]}
        asked = {}
        for longest in (4, 12, 40, 90):
            memory, slow, turn = Memory(), SlowMemory(), 0
            for _ in range(1500):
                turn += draw.choice([0, 0, 0, 0, 0, 1])
                name, kind = draw.choice(names), draw.choice(kinds)
                step = draw.randrange(10)
                if step < 7:
                    records = [(name, kind, draw.randrange(longest), d) for d in draw.sample(data[kind], draw.randint(1, len(data[kind])))]
                    memory.keep(records, turn)
                    slow.hear(name, kind, min(r[2] for r in records), turn, ordered(records))
                else:
                    none, lacking = draw.randrange(longest), draw.choice([None, kind, kind, kind])
                    memory.lack(name, lacking, none, turn)
                    slow.hear(name, lacking, none, turn, [])
                self.assertEqual(memory.many(turn), slow.many(turn))
                name, kind = draw.choice(names), draw.choice(kinds)
                wanted = slow.find(name, kind, turn)
                self.assertTrue(same(memory.find(name, kind, turn), wanted))
                asked[wanted and wanted[0], memory.many(turn) == 60] = True
        self.assertEqual(len(asked), 8, asked)


if __name__ == "__main__":
    unittest.main()
