"""The road, on which letters are under way."""

from namehouse.bounds import within
from namehouse.errors import BadTurn

LONGEST_ROAD = 200
NEVER = 10
MOST = 19


class Road:
    """Takes letters and tells them when they come, later, never or twice as its row tells."""

    def __init__(self, row):
        if not _is_road(row):
            raise BadTurn("no row of a road")
        self._row = list(row)
        self._taken = 0
        # Pairs of a turn and what comes then, in the order of sending.
        self._under_way = []

    def send(self, letter, turn):
        """A letter is sent at a turn."""
        for late in _delays(self._next_number()):
            self._under_way.append((turn + 1 + late, letter))

    def due(self, turn):
        """The letters that come at a turn, which are under way no more."""
        come = [letter for at, letter in self._under_way if at == turn]
        self._under_way = [pair for pair in self._under_way if pair[0] != turn]
        return come

    def many(self):
        """How many letters are under way still."""
        return len(self._under_way)

    def _next_number(self):
        if not self._row:
            return 0
        number = self._row[self._taken]
        self._taken = (self._taken + 1) % len(self._row)
        return number


def _is_road(thing):
    if not isinstance(thing, list) or len(thing) > LONGEST_ROAD:
        return False
    return all([within(number, 0, MOST) for number in thing])


def _delays(number):
    """How many turns later than at the next one a letter comes, each time that it does."""
    if number < NEVER:
        return [number]
    if number == NEVER:
        return []
    return [0, number - NEVER]
