"""Reads the numbers of a letter's row; BadLetter where they can't be read."""

from namehouse.errors import BadLetter
from namehouse.names import LABEL_SIGNS, is_name
from namehouse.records import KINDS
from namehouse.rowwriter import SHORT
from namehouse.signs import sign_at


class RowReader:
    """A row and the place up to which it was read."""

    def __init__(self, row):
        self._row = row
        self._at = 0

    def at_end(self):
        """Whether the whole row was read."""
        return self._at == len(self._row)

    def number(self, size):
        """The number that is written by so many."""
        total = 0
        for _ in range(size):
            total = total * 256 + self._look(self._at, len(self._row))
            self._at += 1
        return total

    def word(self, words):
        """The one of these words whose place is written."""
        place = self.number(1)
        if place >= len(words):
            raise BadLetter("a place that no word has")
        return words[place]

    def kind(self):
        """The kind whose place is written."""
        return self.word(KINDS)

    def name(self):
        """The name that begins here, with what it tells short."""
        labels, place, self._at = self._stretch(self._at, len(self._row))
        end = self._at
        while place is not None:
            # What two numbers stand for ends ahead of them, so no place leads back to itself.
            rest, place, end = self._stretch(place, end - 2)
            if place is None and not rest:
                raise BadLetter("two numbers that stand for no label")
            labels = labels + rest
        name = tuple(labels)
        if not is_name(name):
            raise BadLetter("no name")
        return name

    def _stretch(self, at, limit):
        """The labels from a place on, where they are told short to (or None), and the place behind."""
        labels = []
        while True:
            many = self._look(at, limit)
            if many == 0:
                return labels, None, at + 1
            if many >= SHORT:
                return labels, (many - SHORT) * 256 + self._look(at + 1, limit), at + 2
            labels.append("".join([self._label_sign(k, limit) for k in range(at + 1, at + 1 + many)]))
            at = at + 1 + many

    def _label_sign(self, at, limit):
        place = self._look(at, limit)
        if place >= len(LABEL_SIGNS):
            raise BadLetter("a place that no label's sign has")
        return LABEL_SIGNS[place]

    def _look(self, at, limit):
        """The number at a place, which must stand ahead of the limit."""
        if at >= limit:
            raise BadLetter("a row that is cut off, or a place that isn't ahead")
        return self._row[at]

    def records(self):
        """The records, behind how many they are."""
        return [self._one() for _ in range(self.number(1))]

    def _one(self):
        name = self.name()
        kind = self.kind()
        live = self.number(4)
        return name, kind, live, self._data(kind)

    def _data(self, kind):
        if kind in ("addr", "key", "trust"):
            return self.number(8)
        if kind == "text":
            return self._text()
        if kind in ("keeper", "other"):
            return self.name()
        if kind == "top":
            return self.number(4), self.number(4)
        if kind == "seal":
            return self.kind(), self.number(8), self.number(4)
        name = self.name()
        return name, tuple([self.kind() for _ in range(self.number(1))])

    def _text(self):
        signs = [sign_at(self.number(1)) for _ in range(self.number(1))]
        if None in signs:
            raise BadLetter("a place that no text's sign has")
        return "".join(signs)
