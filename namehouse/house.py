"""The house: keepers, copies, an asker, a road between them, and a clock."""

from namehouse.asker import Asker
from namehouse.copies import Copy
from namehouse.errors import BadChange, BadZone
from namehouse.keeping import Keeper
from namehouse.letters import letter_of, row_of
from namehouse.records import are_unlike, is_addr
from namehouse.road import Road
from namehouse.telling import answer_of
from namehouse.zones import Zone

ASKER_ADDR = 0


class House:
    """Keepers of zones at addrs, copies at other addrs, and an asker at addr 0."""

    def __init__(self, zones, roots, road=None):
        if not _are_zones(zones):
            raise BadZone("no pairs of an addr and a zone, or two at one addr")
        self._asker = Asker(roots)
        self._road = Road([] if road is None else road)
        self._keepers = {addr: Keeper(zone) for addr, zone in zones}
        # Each copy beside the keeper that it follows.
        self._copies = {}
        self._asleep = {}
        self._clock = 0
        self._book = []

    def turn(self):
        """The clock."""
        return self._clock

    def go(self):
        """One turn comes."""
        self._clock += 1
        letters = self._road.due(self._clock)
        for sender, to, row in letters:
            self._hand_over(sender, to, list(row))
        self._send_asks(self._asker.tick(self._clock))

    def ask(self, name, kind):
        """The asker begins at this turn."""
        self._send_asks(self._asker.begin(name, kind, self._clock))

    def end(self):
        """What the asker found, or None."""
        return self._asker.end()

    def sent(self):
        """How many letters the asker sent for this asking."""
        return self._asker.sent()

    def zone(self, addr):
        """The zone that is held at an addr."""
        return self._holder(addr).zone()

    def change(self, addr, wishes, takes, puts):
        """Changes a keeper's zone; whether all wishes held."""
        return self._keeper(addr).change(wishes, takes, puts)

    def copy(self, addr, of):
        """A copy, at a new addr, of a keeper's zone as it is."""
        if not _may_have_one(addr) or self._has(addr):
            raise BadChange("no addr, or one at which there is one already")
        keeper = self._keeper(of)
        self._copies[addr] = (Copy(keeper.zone()), keeper)

    def follow(self, addr):
        """A copy takes what its keeper has changed; what it took."""
        if not is_addr(addr) or addr not in self._copies:
            raise BadChange("no copy's addr")
        held, keeper = self._copies[addr]
        return held.follow(keeper)

    def sleep(self, addr):
        """A keeper or copy hears nothing from now on."""
        self._want_one(addr)
        self._asleep[addr] = True

    def wake(self, addr):
        """A keeper or copy hears again."""
        self._want_one(addr)
        self._asleep[addr] = False

    def book(self):
        """All letters that were sent: (turn, from, to, row)."""
        return [(turn, sender, to, list(row)) for turn, sender, to, row in self._book]

    def _has(self, addr):
        """Whether there is a keeper or a copy at an addr."""
        return is_addr(addr) and (addr in self._keepers or addr in self._copies)

    def _want_one(self, addr):
        if not self._has(addr):
            raise BadChange("no keeper's addr, and no copy's")

    def _keeper(self, addr):
        if not is_addr(addr) or addr not in self._keepers:
            raise BadChange("no keeper's addr")
        return self._keepers[addr]

    def _holder(self, addr):
        self._want_one(addr)
        if addr in self._keepers:
            return self._keepers[addr]
        return self._copies[addr][0]

    def _hand_over(self, sender, to, row):
        """A letter comes to an addr."""
        if to == ASKER_ADDR:
            self._send_asks(self._asker.hear(sender, row, self._clock))
        elif self._has(to) and not self._asleep.get(to, False):
            self._answer(to, sender, letter_of(row))

    def _answer(self, addr, sender, letter):
        if letter[1] == "ask":
            self._send(addr, sender, row_of(answer_of(self._holder(addr).zone(), letter)))

    def _send_asks(self, asks):
        for addr, row in asks:
            self._send(ASKER_ADDR, addr, row)

    def _send(self, sender, to, row):
        self._book.append((self._clock, sender, to, tuple(row)))
        self._road.send((sender, to, tuple(row)), self._clock)


def _are_zones(thing):
    if not isinstance(thing, list) or not all([_is_placed(pair) for pair in thing]):
        return False
    return are_unlike([addr for addr, _ in thing])


def _is_placed(thing):
    """Whether thing is a pair of an addr at which a keeper may be, and a zone."""
    return isinstance(thing, tuple) and len(thing) == 2 and _may_have_one(thing[0]) and isinstance(thing[1], Zone)


def _may_have_one(addr):
    return is_addr(addr) and addr != ASKER_ADDR
