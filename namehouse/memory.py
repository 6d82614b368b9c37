"""A memory: what was heard, kept for as long as it lives."""

from namehouse.errors import BadRecord
from namehouse.names import name_rank
from namehouse.records import are_one_set, are_unlike, is_kind, is_life, ordered
from namehouse.wants import want_kind, want_name, want_turn

MOST_ROWS = 60


class Memory:
    """Keeps sets of records, that a name has none of a kind, and that a name is lacking."""

    def __init__(self):
        # Each row by its name and kind (None: the name is lacking): when it ends, when it was heard, its records.
        self._rows = {}

    def keep(self, records, turn):
        """A set is heard at a turn."""
        if not are_one_set(records) or not are_unlike(records):
            raise BadRecord("no records of one name and kind, or two alike")
        want_turn(turn)
        name, kind = records[0][:2]
        life = min([record[2] for record in records])
        self._hear(name, kind, life, turn, tuple(ordered(records)))

    def lack(self, name, kind, none, turn):
        """It is heard at a turn that a name has none of a kind, or is lacking where the kind is None."""
        want_name(name)
        if not (kind is None or is_kind(kind)) or not is_life(none):
            raise BadRecord("no kind, or no number of turns")
        want_turn(turn)
        self._hear(name, kind, none, turn, ())

    def find(self, name, kind, turn):
        """What is kept of a name and a kind at a turn, or None."""
        want_name(name)
        want_kind(kind)
        want_turn(turn)
        row = self._standing(name, kind, turn)
        if row is not None:
            _, heard, records = row
            if not records:
                return ("empty",)
            return "set", [_aged(record, turn - heard) for record in records]
        if self._standing(name, None, turn) is not None:
            return ("lacking",)
        return None

    def many(self, turn):
        """How many rows stand at a turn."""
        want_turn(turn)
        return len([row for row in list(self._rows.values()) if row[0] > turn])

    def _standing(self, name, kind, turn):
        row = self._rows.get((name, kind))
        if row is None or row[0] <= turn:
            return None
        return row

    def _hear(self, name, kind, life, turn, records):
        # What is let go counts no more where the memory is full.
        self._rows = {key: row for key, row in self._rows.items() if not _is_let_go(key, name, kind)}
        if life > 0:
            self._make_room(turn)
            self._rows[(name, kind)] = (turn + life, turn, records)

    def _make_room(self, turn):
        """Lets go what must go for one more row."""
        if len(self._rows) < MOST_ROWS:
            return
        self._rows = {key: row for key, row in self._rows.items() if row[0] > turn}
        if len(self._rows) < MOST_ROWS:
            return
        ranks = [(row[0], name_rank(key[0]), _kind_rank(key[1]), key) for key, row in self._rows.items()]
        first = min(ranks, key=_rank)
        del self._rows[first[3]]


def _aged(record, turns):
    name, kind, live, data = record
    return name, kind, live - turns, data


def _is_let_go(key, name, kind):
    """Whether what is kept by a key goes where a name and a kind, or that the name is lacking (None), is heard."""
    return key[0] == name and (kind is None or key[1] is None or key[1] == kind)


def _kind_rank(kind):
    # That a name is lacking stands ahead of all kinds.
    return kind or ""


def _rank(row):
    return row[:3]
