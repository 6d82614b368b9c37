"""One asking: what is looked for, what was followed, and the letters at the place where it asks."""

from namehouse.lookup import set_of
from namehouse.records import ordered

MOST_OTHERS = 8
MOST_LETTERS = 24


class Asking:
    """An asking for a name and a kind; its field found is what it ends with, None until then."""

    def __init__(self, name, kind):
        self.found = None
        # The name at which it asks, and the letter that waits: (number, addr, turn).
        self.place = ()
        self.waiting = None
        self.letters = 0
        self._kind = kind
        self._names = [name]
        self._others = []
        self._addrs = []

    def name(self):
        """The name that is looked for."""
        return self._names[-1]

    def kind(self):
        """The kind that is asked."""
        return self._kind

    def finish(self, found):
        """Ends with what was found."""
        self.found = found
        self.waiting = None

    def finish_set(self, records):
        """Ends with the others followed and a set."""
        self.finish(("good", self._others + records))

    def told(self):
        """What it ended with, or None."""
        if self.found is not None and self.found[0] == "good":
            return "good", list(self.found[1])
        return self.found

    def follow(self, other):
        """Looks for an other's data from now on."""
        data = other[3]
        if data in self._names:
            self.finish(("fault", "ring"))
        elif len(self._others) == MOST_OTHERS:
            self.finish(("fault", "many"))
        else:
            self._names.append(data)
            self._others.append(other)

    def follow_all(self, records):
        """Follows the others among records, one by one; whether there was one."""
        followed = False
        while self.found is None:
            others = ordered(set_of(records, self.name(), "other"))
            if self._kind == "other" or not others:
                return followed
            self.follow(others[0])
            followed = True
        return followed

    def turn_to(self, place, addrs):
        """Asks at a place from now on: at these addrs, one behind the other."""
        self.place = place
        self._addrs = list(addrs)

    def next_addr(self):
        """The addr at which is asked next; None where that ends the asking."""
        if not self._addrs:
            self.finish(("fault", "dead"))
            return None
        if self.letters == MOST_LETTERS:
            self.finish(("fault", "many"))
            return None
        return self._addrs.pop(0)
