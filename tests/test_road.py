"""Promises [1] and [17]: the road, and when what is sent on it comes."""

import random
import unittest

from namehouse.errors import BadTurn
from namehouse.road import Road
from tests.things import Agreeing, odd_things, same


class RoadTest(unittest.TestCase):
    def come(self, road, *turns):
        """What comes at these turns."""
        return [road.due(turn) for turn in turns]

    def test_an_empty_row(self):
        road = Road([])
        self.assertIsNone(road.send("a", 0))
        road.send("b", 0)
        road.send("c", 1)
        self.assertTrue(same(road.many(), 3))
        self.assertEqual(self.come(road, 0, 1, 2, 3), [[], ["a", "b"], ["c"], []])
        self.assertEqual(road.many(), 0)

    def test_each_number(self):
        for number in range(20):
            for turn in (0, 7, 10 ** 30):
                road = Road([number])
                road.send("a", turn)
                wanted = {0: [1]}.get(number, [1 + number] if number < 10 else [] if number == 10 else [1, 1 + number - 10])
                self.assertEqual(road.many(), len(wanted))
                found = [late for late in range(25) if road.due(turn + late) == ["a"]]
                self.assertEqual(found, wanted, number)
                self.assertEqual(road.many(), 0)

    def test_round_and_round(self):
        road = Road([0, 2, 10, 11])
        for k in range(10):
            road.send(k, 5)
        self.assertEqual(road.many(), 3 + 3 + 0 + 4)
        self.assertEqual(self.come(road, 6, 7, 8, 9), [[0, 3, 4, 7, 8], [3, 7], [1, 5, 9], []])
        # The row goes on where it was, at whatever turn.
        road.send("a", 20)
        road.send("b", 20)
        self.assertEqual(self.come(road, 21, 22), [["b"], ["b"]])

    def test_in_the_order_in_which_they_were_sent(self):
        road = Road([3, 1, 0, 13])
        road.send("a", 0)
        road.send("b", 2)
        road.send("c", 3)
        road.send("d", 0)
        road.send("e", 0)
        self.assertEqual(self.come(road, 1, 4), [["d"], ["a", "b", "c", "d", "e"]])

    def test_a_turns_are_gone_when_they_were_told(self):
        road = Road([0, 12])
        road.send("a", 0)
        road.send("b", 0)
        self.assertEqual(road.many(), 3)
        self.assertEqual(road.due(1), ["a", "b"])
        self.assertEqual(road.many(), 1)
        self.assertEqual(road.due(1), [])
        self.assertEqual(road.due(3), ["b"])
        self.assertEqual((road.due(3), road.many()), ([], 0))

    def test_turns_that_werent_asked_are_under_way_still(self):
        road = Road([])
        road.send("a", 0)
        road.send("b", 1)
        self.assertEqual(road.due(2), ["b"])
        self.assertEqual(road.many(), 1)
        self.assertEqual(road.due(1), ["a"])

    def test_letters_of_any_things(self):
        things = odd_things() + [(0, 1, [2]), "", ["x"]]
        road = Road([0, 11])
        for thing in things:
            road.send(thing, 0)
        found = road.due(1)
        self.assertEqual(len(found), len(things))
        self.assertTrue(all(first is second for first, second in zip(found, things)))
        found = road.due(2)
        self.assertTrue(all(first is second for first, second in zip(found, things[1::2])))
        self.assertEqual(len(found), len(things) // 2)

    def test_rows_of_200_and_one_more(self):
        row = [k % 10 for k in range(199)] + [10]
        road = Road(row)
        for k in range(201):
            road.send(k, 0)
        self.assertEqual(road.many(), 200)
        self.assertEqual(road.due(1), list(range(0, 199, 10)) + [200])
        with self.assertRaises(BadTurn):
            Road(row + [0])

    def test_refused(self):
        for thing in odd_things() + [(), (0,), "0", {0: 0}, iter([0]), range(2), None, 0]:
            with self.assertRaises(BadTurn, msg=repr(thing)):
                Road(thing)
        for thing in odd_things() + [-1, 20, 10 ** 30, True, False, 1.0, "1", [0], Agreeing()]:
            if type(thing) is int and 0 <= thing < 20:
                continue
            for row in ([thing], [0, thing], [thing, 19]):
                with self.assertRaises(BadTurn, msg=repr(thing)):
                    Road(row)

    def test_lists_may_be_changed(self):
        row = [0, 1]
        road = Road(row)
        row.append(77)
        row[0] = 10
        for k in range(4):
            road.send(k, 0)
        self.assertEqual(row, [10, 1, 77])
        told = road.due(1)
        self.assertEqual(told, [0, 2])
        told.clear()
        road.due(5).append(1)
        self.assertEqual((road.due(5), road.due(2)), ([], [1, 3]))

    def test_drawn(self):
        draw = random.Random(17)
        for _ in range(60):
            row = [draw.choice([0, 0, 3, 9, 10, 11, 15, 19]) for _ in range(draw.randrange(6))]
            road, comes, number = Road(row), {}, 0
            for turn in range(40):
                self.assertEqual(road.many(), sum(len(found) for found in comes.values()))
                wanted = [letter for _, letter in sorted(comes.pop(turn, []))]
                self.assertEqual(road.due(turn), wanted)
                for _ in range(draw.randrange(4)):
                    road.send(f"letter {number}", turn)
                    late = row[number % len(row)] if row else 0
                    if late != 10:
                        comes.setdefault(turn + 1 + (late if late < 10 else 0), []).append((number, f"letter {number}"))
                    if late > 10:
                        comes.setdefault(turn + 1 + late - 10, []).append((number, f"letter {number}"))
                    number += 1


if __name__ == "__main__":
    unittest.main()
