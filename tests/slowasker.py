"""The same as an asker, written down as one walk: for tests that draw what is heard."""

from namehouse.memory import Memory
from namehouse.names import below, ordered_names
from namehouse.records import ordered


class Ended(Exception):
    """What an asking ends with."""


def each_once(records):
    return ordered(list(dict.fromkeys(records)))


def keep_sets(memory, records, turn):
    for pair in dict.fromkeys(record[:2] for record in each_once(records)):
        memory.keep([record for record in each_once(records) if record[:2] == pair], turn)


def walk(memory, roots, name, kind, turn):
    """Yields the addr and name of each letter; is sent the turn and the answer (None: given up). Returns the end."""
    names, told, sent = [name], [], 0

    def follow(other):
        if other[3] in names:
            raise Ended(("fault", "ring"))
        if len(told) == 8:
            raise Ended(("fault", "many"))
        names.append(other[3])
        told.append(other)

    def kept(place, word):
        found = memory.find(place, word, turn)
        return found[1] if found and found[0] == "set" else []

    def addrs_of(keepers, beside):
        addrs = []
        for keeper in ordered_names(list({record[3] for record in keepers})):
            own = {record[3] for record in beside if record[0] == keeper}
            addrs += sorted(own or {record[3] for record in kept(keeper, "addr")})
        return addrs

    try:
        while True:
            found = memory.find(names[-1], kind, turn)
            if found:
                raise Ended(("good", told + found[1]) if found[0] == "set" else found)
            if kind != "other" and kept(names[-1], "other"):
                follow(kept(names[-1], "other")[0])
                continue
            spots = [names[-1][k:] for k in range(len(names[-1]) + 1)]
            if kind == "trust" and len(spots) > 1:
                spots = spots[1:]
            place, queue = (), [addr for _, addr in sorted(roots, key=lambda pair: (pair[0][::-1], pair[1]))]
            for spot in spots:
                if addrs_of(kept(spot, "keeper"), []):
                    place, queue = spot, addrs_of(kept(spot, "keeper"), [])
                    break
            while queue is not None:
                if not queue:
                    raise Ended(("fault", "dead"))
                if sent == 24:
                    raise Ended(("fault", "many"))
                sent += 1
                turn, answer = yield queue[0], names[-1]
                queue = queue[1:]
                if answer is None:
                    continue
                outcome, answers, keepers, beside = answer
                answers = [record for record in answers if below(record[0], place)]
                keep_sets(memory, answers, turn)
                before = len(names)
                while kind != "other" and any(record[:2] == (names[-1], "other") for record in answers):
                    follow(each_once([record for record in answers if record[:2] == (names[-1], "other")])[0])
                followed = len(names) > before
                mine = each_once([record for record in answers if record[:2] == (names[-1], kind)])
                if outcome == "good" and mine:
                    raise Ended(("good", told + mine))
                if outcome in ("empty", "lacking"):
                    tops = [record for record in keepers if record[1] == "top" and below(record[0], place)]
                    memory.lack(names[-1], kind if outcome == "empty" else None, tops[0][3][1] if tops else 0, turn)
                    raise Ended((outcome,))
                if outcome == "handed" and keepers and {record[:2] for record in keepers} == {(keepers[0][0], "keeper")}:
                    onward = keepers[0][0]
                    here = [record for record in beside if record[1] == "addr" and below(record[0], place)
                            and record[0] in [keeper[3] for keeper in keepers]]
                    well = below(onward, place) and onward != place and below(names[-1], onward)
                    if well and not (kind == "trust" and onward == names[-1]) and addrs_of(keepers, here):
                        queue, place = addrs_of(keepers, here), onward
                        keep_sets(memory, keepers, turn)
                        keep_sets(memory, here, turn)
                        continue
                if followed:
                    queue = None
    except Ended as end:
        return end.args[0]


class SlowAsker:
    """Askings one behind the other; sends() are what a walk yields."""

    def __init__(self, roots):
        self.roots, self.memory, self.number = roots, Memory(), -1
        self.found, self.walk, self.waiting, self.sent = None, None, None, 0

    def begin(self, name, kind, turn):
        self.found, self.sent, self.kind = None, 0, kind
        self.walk = walk(self.memory, self.roots, name, kind, turn)
        return self.step(None, turn)

    def step(self, sent, turn):
        """What is sent: (addr, number, name, kind), or None."""
        try:
            addr, name = self.walk.send(sent)
        except StopIteration as end:
            self.found, self.waiting = end.value, None
            return None
        self.number = (self.number + 1) % 65536
        self.sent += 1
        self.waiting = (addr, self.number, name, turn)
        return addr, self.number, name, self.kind

    def hear(self, addr, number, name, kind, answer, turn):
        if self.waiting is None or (addr, number, name, kind) != self.waiting[:3] + (self.kind,):
            return None
        return self.step((turn, answer), turn)

    def tick(self, turn):
        if self.waiting is None or turn < self.waiting[3] + 3:
            return None
        return self.step((turn, None), turn)
