"""An asker: it goes from the root down, letter by letter, and keeps what it hears."""

from namehouse.asking import Asking
from namehouse.errors import BadLetter, BadRecord
from namehouse.handing import addrs_of, each_keeper, handed_place, told_addrs
from namehouse.letters import HIGHEST_NUMBER, letter_of, row_of
from namehouse.lookup import of_kind, set_of
from namehouse.memory import Memory
from namehouse.names import below, is_starless, name_rank
from namehouse.records import each_once, is_addr
from namehouse.wants import want_kind, want_name, want_turn

PATIENCE = 3


class Asker:
    """Knows the root's keepers, has a memory, and asks for one name and kind at a time."""

    def __init__(self, roots):
        if not _are_roots(roots):
            raise BadRecord("no pairs of a name and an addr")
        self._roots = [addr for _, addr in sorted(roots, key=_root_rank)]
        self._memory = Memory()
        self._number = 0
        self._asking = None

    def begin(self, name, kind, turn):
        """A new asking; what is sent."""
        want_name(name)
        want_kind(kind)
        want_turn(turn)
        self._asking = Asking(name, kind)
        return self._look(turn)

    def hear(self, addr, row, turn):
        """A row comes from an addr; what is sent."""
        want_turn(turn)
        answer = self._answer_in(addr, row)
        if answer is None:
            return []
        return self._take(answer, turn)

    def tick(self, turn):
        """The turn has come; what is sent."""
        want_turn(turn)
        if self._asking is None or self._asking.waiting is None:
            return []
        if turn - self._asking.waiting[2] < PATIENCE:
            return []
        return self._ask_next(turn)

    def end(self):
        """What the asking ended with, or None."""
        if self._asking is None:
            return None
        return self._asking.told()

    def sent(self):
        """How many letters were sent for this asking."""
        if self._asking is None:
            return 0
        return self._asking.letters

    def memory(self):
        """Its memory."""
        return self._memory

    def _look(self, turn):
        """Goes on from the name that is looked for; what is sent."""
        asking = self._asking
        while asking.found is None:
            kept = self._memory.find(asking.name(), asking.kind(), turn)
            if kept is not None:
                self._end_with(kept)
                return []
            others = self._kept(asking.name(), "other", turn)
            if asking.kind() == "other" or not others:
                return self._ask_nearest(turn)
            asking.follow(others[0])
        return []

    def _end_with(self, kept):
        if kept[0] == "set":
            self._asking.finish_set(kept[1])
        else:
            self._asking.finish(kept)

    def _kept(self, name, kind, turn):
        """The records of a name and a kind that are kept."""
        kept = self._memory.find(name, kind, turn)
        if kept is None or kept[0] != "set":
            return []
        return kept[1]

    def _ask_nearest(self, turn):
        """Asks at the nearest place that can be asked; what is sent."""
        for place in _places(self._asking.name(), self._asking.kind()):
            addrs = self._addrs_at(self._kept(place, "keeper", turn), [], turn)
            if addrs:
                return self._ask_at(place, addrs, turn)
        return self._ask_at((), self._roots, turn)

    def _addrs_at(self, keepers, told, turn):
        """The addrs of the keepers: of each those told, else those kept."""
        addrs = []
        for name in each_keeper(keepers):
            addrs = addrs + (addrs_of(told, name) or addrs_of(self._kept(name, "addr", turn), name))
        return addrs

    def _ask_at(self, place, addrs, turn):
        self._asking.turn_to(place, addrs)
        return self._ask_next(turn)

    def _ask_next(self, turn):
        """Asks at the next addr of the place; what is sent."""
        asking = self._asking
        addr = asking.next_addr()
        if addr is None:
            return []
        asking.letters += 1
        asking.waiting = (self._number, addr, turn)
        row = row_of((self._number, "ask", asking.name(), asking.kind(), "good", [], [], []))
        self._number = 0 if self._number == HIGHEST_NUMBER else self._number + 1
        return [(addr, row)]

    def _answer_in(self, addr, row):
        """The answer to the letter that waits, or None."""
        asking = self._asking
        if asking is None or asking.waiting is None or not is_addr(addr) or addr != asking.waiting[1]:
            return None
        try:
            letter = letter_of(row)
        except BadLetter:
            return None
        if letter[:4] != (asking.waiting[0], "answer", asking.name(), asking.kind()):
            return None
        return letter

    def _take(self, answer, turn):
        """Keeps what counts of an answer and goes on; what is sent."""
        asking = self._asking
        asking.waiting = None
        outcome, answers, keepers, beside = answer[4:]
        counted = _below_place(answers, asking.place)
        self._keep_sets(counted, turn)
        followed = asking.follow_all(counted)
        if asking.found is not None:
            return []
        found = each_once(set_of(counted, asking.name(), asking.kind()))
        if outcome == "good" and found:
            asking.finish_set(found)
            return []
        if outcome in ("empty", "lacking"):
            self._lack(outcome, keepers, turn)
            asking.finish((outcome,))
            return []
        place = handed_place(keepers, asking.place, asking.name(), asking.kind())
        if outcome == "handed" and place is not None:
            told = told_addrs(keepers, _below_place(beside, asking.place))
            addrs = self._addrs_at(keepers, told, turn)
            if addrs:
                self._keep_sets(keepers, turn)
                self._keep_sets(told, turn)
                return self._ask_at(place, addrs, turn)
        # The answer is passed over.
        if followed:
            return self._look(turn)
        return self._ask_next(turn)

    def _keep_sets(self, records, turn):
        """Keeps each set among the records."""
        once = each_once(records)
        for name, kind in _sets_in(once):
            self._memory.keep(set_of(once, name, kind), turn)

    def _lack(self, outcome, keepers, turn):
        """Keeps that there is none of the name come to, for as long as the first top tells."""
        tops = of_kind(_below_place(keepers, self._asking.place), "top")
        none = tops[0][3][1] if tops else 0
        kind = self._asking.kind() if outcome == "empty" else None
        self._memory.lack(self._asking.name(), kind, none, turn)


def _are_roots(thing):
    return isinstance(thing, list) and len(thing) >= 1 and all([_is_root(pair) for pair in thing])


def _is_root(thing):
    return isinstance(thing, tuple) and len(thing) == 2 and is_starless(thing[0]) and is_addr(thing[1])


def _root_rank(pair):
    name, addr = pair
    return name_rank(name), addr


def _places(name, kind):
    """The names at which may be asked, the nearest ahead."""
    if kind == "trust":
        # A trust of a name is told by the zone above it; of () by its own.
        name = name[1:]
    return [name[at:] for at in range(len(name) + 1)]


def _below_place(records, place):
    return [record for record in records if below(record[0], place)]


def _sets_in(records):
    """The names and kinds of records that are in order, each once."""
    found = []
    for record in records:
        if record[:2] not in found:
            found.append(record[:2])
    return found
