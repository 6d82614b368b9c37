"""Promises over the whole program: askings in drawn traffic, and houses that run for long."""

import random
import unittest

from namehouse.asker import Asker
from namehouse.desk import answered
from namehouse.errors import HouseError
from namehouse.house import House
from namehouse.letters import letter_of, row_of
from namehouse.lookup import set_of
from namehouse.shown import shown, step_of
from namehouse.seals import sealed
from namehouse.telling import told
from namehouse.zones import Zone
from tests.housethings import COM, FIRM, ROOT, ROOTS, com_zone, firm_zone, go, root_zone
from tests.slowasker import SlowAsker
from tests.test_steps import wanted_of
from tests.things import same
from tests.zonethings import at, rec

NAMES = [at(name) for name in ("", "a", "b", "c", "a.a", "b.a", "a.b", "x.a.a", "x.b.a", "k.a", "k", "q.q")]


def drawn_records(draw, many, kinds):
    """Some records of few names, with few data."""
    found = []
    for _ in range(draw.randrange(many + 1)):
        kind = draw.choice(kinds)
        data = {"addr": draw.randrange(1, 5), "text": draw.choice("xy"), "top": (draw.randrange(9), draw.randrange(6)), "trust": 4, "key": 3}
        live = draw.choice([0, 1, 3, 9, 9, 30])
        found.append((draw.choice(NAMES), kind, live, data.get(kind, draw.choice(NAMES))))
    return found


def drawn_answer(draw, name):
    """An outcome and its lists: some sound, some not."""
    outcome = draw.choice(["good", "good", "good", "empty", "lacking", "handed", "handed", "handed", "refused"])
    answers = drawn_records(draw, 4, ["addr", "other", "other", "text", "trust", "keeper"])
    if draw.randrange(2):
        answers.append((name, draw.choice(["addr", "other", "other", "trust"]), 9, 1))
        answers[-1] = answers[-1][:3] + ({"other": draw.choice(NAMES), "addr": 3, "trust": 4}[answers[-1][1]],)
    if outcome == "handed" and draw.randrange(4):
        place = name[draw.randrange(len(name) + 1):]
        keepers = [(place, "keeper", draw.choice([0, 5, 20]), draw.choice(NAMES)) for _ in range(draw.randrange(1, 3))]
        beside = drawn_records(draw, 5, ["addr", "addr", "text"])
    else:
        keepers, beside = drawn_records(draw, 3, ["keeper", "top", "top", "addr"]), drawn_records(draw, 3, ["addr", "text"])
    return outcome, answers, keepers, beside


class DrawnTrafficTest(unittest.TestCase):
    """An asker does as the slow one, whatever it hears."""

    def sent(self, told, wanted):
        asks = [] if wanted is None else [(wanted[0], row_of((wanted[1], "ask", wanted[2], wanted[3], "good", [], [], [])))]
        self.assertTrue(same(told, asks), (told, wanted))

    def alike(self, one, slow, turn):
        self.assertTrue(same(one.end(), slow.found), (one.end(), slow.found))
        self.assertEqual(one.sent(), slow.sent)
        self.assertEqual(one.memory().many(turn), slow.memory.many(turn))
        for name in NAMES:
            for kind in ("addr", "other", "keeper", "trust", "text"):
                self.assertTrue(same(one.memory().find(name, kind, turn), slow.memory.find(name, kind, turn)), (name, kind))

    def run_one(self, draw, seen):
        roots = [(draw.choice(NAMES), draw.randrange(1, 4)) for _ in range(draw.choice([1, 2, 3, 14, 40]))]
        one, slow, turn = Asker(list(roots)), SlowAsker(roots), draw.randrange(3)
        slow_run = len(roots) == 40
        for _ in range(draw.randrange(1, 120)):
            # With many roots mostly time goes by, so that letters run out.
            step = draw.choice([1, 9, 9, 9, 9, 9]) if slow_run else draw.randrange(12)
            if slow.walk is None or (slow.found is not None and step < 9) or step == 0:
                name, kind = draw.choice(NAMES), draw.choice(["addr", "addr", "addr", "other", "trust", "text", "keeper"])
                self.sent(one.begin(name, kind, turn), slow.begin(name, kind, turn))
            elif step < 9 and slow.waiting:
                addr, number, name, _ = slow.waiting
                answer = drawn_answer(draw, name)
                if draw.randrange(8) == 0:
                    addr, number = draw.choice([(addr + 1, number), (addr, number + 1)])
                row = row_of((number, "answer", name, slow.kind) + answer)
                self.sent(one.hear(addr, row, turn), slow.hear(addr, number, name, slow.kind, answer, turn))
            else:
                turn += draw.choice([1, 1, 1, 3, 10])
                self.sent(one.tick(turn), slow.tick(turn))
            self.alike(one, slow, turn)
            if slow.found:
                word = slow.found[0] if slow.found[0] != "fault" else slow.found[1]
                seen[word, slow.sent > 1] = seen.get((word, slow.sent > 1), 0) + 1

    def test_drawn_traffic(self):
        draw, seen = random.Random(14), {}
        for _ in range(200):
            self.run_one(draw, seen)
        for word in ("good", "empty", "lacking", "dead", "ring", "many"):
            self.assertGreater(seen.get((word, True), 0), 5, seen)


class LongRunTest(unittest.TestCase):
    """A house with a road, changes, copies and sleepers: each asking ends, and with what was held."""

    LATEST = 10

    def remember(self, one, had):
        had.append([one.zone(addr) for addr in (ROOT, FIRM, COM, 11, 12)])

    def was_held(self, records, had):
        """Whether the set was told by some zone so much ahead as its lives tell."""
        name, kind = records[0][:2]
        for turn, zones in enumerate(had):
            for zone in zones:
                for found in (set_of(zone.records(), name, kind), [r for r in told(zone, name, kind)[1] if r[:2] == (name, kind)]):
                    if [r[3] for r in found] == [r[3] for r in records]:
                        late = len(had) - 1 + records[0][2] - turn - found[0][2]
                        if 0 <= late <= self.LATEST:
                            return True
        return False

    def changed(self, draw, one):
        addr = draw.choice([ROOT, FIRM, COM])
        here = one.zone(addr).records()
        origin = one.zone(addr).origin
        label = draw.choice(["www", "a", "n", "*", "w"])
        put = (((label,) + origin), draw.choice(["addr", "text"]), 6, None)
        put = put[:3] + (draw.randrange(9) if put[1] == "addr" else draw.choice("xyz"),)
        takes = draw.sample([r for r in here if r[1] in ("addr", "text", "other") and r[0][0] not in ("ns", "r")][:9] or [None], 1)
        try:
            one.change(addr, [], [take for take in takes if take and draw.randrange(2)], [put])
        except HouseError:
            pass

    def step(self, draw, one):
        act = draw.randrange(10)
        if act < 3:
            self.changed(draw, one)
        elif act == 3:
            one.follow(draw.choice([11, 12]))
        elif act == 4:
            one.sleep(draw.choice([ROOT, FIRM, COM, 11, 12]))
        elif act < 7:
            one.wake(draw.choice([ROOT, FIRM, COM, 11, 12]))

    def run_one(self, draw, seen):
        zones = [(ROOT, root_zone(rec("firm", "keeper", "ns2.firm", 30), rec("ns2.firm", "addr", 12, 30))), (FIRM, firm_zone()), (COM, com_zone())]
        row = [draw.choice([0, 0, 0, 0, 1, 2, 5, 10, 11, 14]) for _ in range(draw.randrange(30))]
        one = House(zones, ROOTS + [(at("r2"), 11)], row)
        one.copy(11, ROOT)
        one.copy(12, FIRM)
        had = []
        self.remember(one, had)
        names = [at(n) for n in ("www.firm", "a.firm", "o.firm", "ring.firm", "w.com", "z.firm", "n.com", "firm", "a", "", "x.y.com")]
        for _ in range(12):
            one.ask(draw.choice(names), draw.choice(["addr", "addr", "text", "text", "keeper", "trust", "other"]))
            began = one.turn()
            while one.end() is None:
                self.step(draw, one)
                # A change counts for the turn that it is made at, too.
                had[-1] = had[-1] + [one.zone(addr) for addr in (ROOT, FIRM, COM, 11, 12)]
                one.go()
                self.remember(one, had)
                self.assertLessEqual(one.turn() - began, 24 * 3)
            self.assertLessEqual(one.sent(), 24)
            self.check_end(one.end(), had, seen)
            for _ in range(draw.randrange(4)):
                one.go()
                self.remember(one, had)
        self.check_book(one)

    def check_end(self, end, had, seen):
        seen[end[0]] = seen.get(end[0], 0) + 1
        if end[0] == "good":
            pairs = list(dict.fromkeys(record[:2] for record in end[1]))
            for pair in pairs:
                self.assertTrue(self.was_held([record for record in end[1] if record[:2] == pair], had), end)

    def check_book(self, one):
        """Letters in the order of their turns; asks are the asker's, answers come from where was asked."""
        turns = [letter[0] for letter in one.book()]
        self.assertEqual(turns, sorted(turns))
        asked = {}
        for turn, sender, to, row in one.book():
            letter = letter_of(row)
            if letter[1] == "ask":
                self.assertEqual(sender, 0)
                self.assertEqual(letter[0], len(asked))
                asked[letter[0]] = (to,) + letter[2:4]
            else:
                self.assertEqual(to, 0)
                self.assertEqual(asked[letter[0]], (sender,) + letter[2:4])

    def test_drawn_houses(self):
        draw, seen = random.Random(17), {}
        for _ in range(60):
            self.run_one(draw, seen)
        self.assertGreater(min(seen[word] for word in ("good", "empty", "lacking", "fault")), 20)


class SealedHouseTest(unittest.TestCase):
    def test_what_steps_show_is_what_the_house_finds(self):
        root = sealed(root_zone(rec("firm", "trust", 12), rec("firm", "trust", 13)), [11])
        firm = sealed(firm_zone(rec("*.b.firm", "text", "star", 7)), [13])
        one = House([(ROOT, root), (FIRM, firm)], ROOTS)
        for name in ("www.firm", "a.firm", "z.firm", "b.firm", "x.b.firm", "firm", "r", "net", "", "firm"):
            for kind in ("addr", "text", "key", "trust", "other"):
                self.check(one, at(name), kind)

    def check(self, one, name, kind):
        one.ask(name, kind)
        go(one)
        end = one.end()
        zones = [one.zone(ROOT)]
        if told(zones[0], name, kind)[0] == "handed":
            self.assertIsNone(shown(11, [step_of(zones[0], name, kind)], name, kind))
            zones.append(one.zone(FIRM))
        found = shown(11, [step_of(zone, name, kind) for zone in zones], name, kind)
        self.assertTrue(same(found, wanted_of(zones[-1], name, kind)))
        if found[0] == "other":
            self.assertTrue(end[0] != "good" or end[1][0][3] == found[1])
        elif found[0] == "good":
            self.assertEqual([r[3] for r in found[1]], [r[3] for r in end[1]])
        else:
            self.assertEqual(found, end)

    def test_changed_and_sealed_anew(self):
        one = House([(ROOT, sealed(root_zone(), [11]))], ROOTS)
        zone = one.zone(ROOT)
        new = sealed(Zone((), zone.records() + [rec("z", "text", "x")]), [11])
        takes = [r for r in zone.records() if r not in new.records() and r[1] != "top"]
        puts = [r for r in new.records() if r not in zone.records() and r[1] != "top"]
        self.assertIs(one.change(ROOT, [], takes, puts), True)
        # The top has another version now, so its seal isn't right; all else holds.
        for kind, wanted in (("text", ("good", [rec("z", "text", "x")])), ("addr", ("empty",)), ("trust", ("empty",))):
            self.assertTrue(same(shown(11, [step_of(one.zone(ROOT), at("z"), kind)], at("z"), kind), wanted))
        self.assertIsNone(shown(11, [step_of(one.zone(ROOT), (), "top")], (), "top"))


class DeskRunTest(unittest.TestCase):
    def test_a_day_at_the_desk(self):
        one = House([(ROOT, root_zone()), (FIRM, firm_zone())], ROOTS, [0, 0, 10, 0, 11])
        one.copy(9, FIRM)
        lines = [("ask www.firm. addr", ["asked"]), ("turns 30", ["turn 30"]), ("end", ["fault dead"]), ("ask www.firm. addr", ["asked"]),
                 ("turns 2", ["turn 32"]), ("end", ["good", "www.firm. 6 addr 7", "www.firm. 6 addr 8"]), ("put 2 www.firm. 6 addr 9", ["done"]),
                 ("follow 9", ["steps"]), ("turns 3", ["turn 35"]), ("ask www.firm. addr", ["asked"]),
                 ("end", ["good", "www.firm. 3 addr 7", "www.firm. 3 addr 8"]), ("book", ["5"]), ("sleep 2", ["done"]), ("follow 9", ["same"])]
        for line, wanted in lines:
            self.assertEqual(answered(one, line), wanted, line)
        self.assertEqual(answered(one, "zone 9"), answered(one, "zone 2"))


if __name__ == "__main__":
    unittest.main()
