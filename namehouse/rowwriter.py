"""Writes the numbers of a letter's row, names told short."""

from namehouse.names import LABEL_SIGNS
from namehouse.records import KINDS
from namehouse.signs import place_of_sign

# The first of the two numbers that stand for a name's rest is this one or more.
SHORT = 192


class RowWriter:
    """A row that grows; it remembers where each name's rest was written first."""

    def __init__(self):
        self._numbers = []
        self._places = {}

    def told(self):
        """A list of the numbers so far."""
        return list(self._numbers)

    def put_number(self, number, size):
        """A number by so many, the highest first."""
        for shift in range(8 * size - 8, -1, -8):
            self._numbers.append((number >> shift) & 255)

    def put_name(self, name):
        """A name, its rest told short where that was written ahead."""
        for at in range(len(name)):
            rest = name[at:]
            if rest in self._places:
                self.put_number(SHORT * 256 + self._places[rest], 2)
                return
            self._places[rest] = len(self._numbers)
            self._put_label(name[at])
        self.put_number(0, 1)

    def _put_label(self, label):
        self.put_number(len(label), 1)
        for sign in label:
            self.put_number(LABEL_SIGNS.index(sign), 1)

    def put_kind(self, kind):
        """A kind, by its place."""
        self.put_number(KINDS.index(kind), 1)

    def put_records(self, records):
        """How many records, and each of them."""
        self.put_number(len(records), 1)
        for name, kind, live, data in records:
            self.put_name(name)
            self.put_kind(kind)
            self.put_number(live, 4)
            self._put_data(kind, data)

    def _put_data(self, kind, data):
        if kind in ("addr", "key", "trust"):
            self.put_number(data, 8)
        elif kind == "text":
            self._put_text(data)
        elif kind in ("keeper", "other"):
            self.put_name(data)
        elif kind == "top":
            self.put_number(data[0], 4)
            self.put_number(data[1], 4)
        elif kind == "seal":
            self.put_kind(data[0])
            self.put_number(data[1], 8)
            self.put_number(data[2], 4)
        else:
            self._put_gap(data)

    def _put_text(self, text):
        self.put_number(len(text), 1)
        for sign in text:
            self.put_number(place_of_sign(sign), 1)

    def _put_gap(self, data):
        name, kinds = data
        self.put_name(name)
        self.put_number(len(kinds), 1)
        for kind in kinds:
            self.put_kind(kind)
