"""The desk: lines for a house, and what they are answered."""

from namehouse.bounds import within
from namehouse.errors import BadLine, BadName, HouseError
from namehouse.figures import number_of
from namehouse.names import name_of
from namehouse.records import is_kind
from namehouse.zonetext import record_of, record_text, zone_text

MOST_TURNS = 30


def answered(house, line):
    """The lines that answer a line."""
    try:
        return _answer(house, line)
    except BadLine:
        return ["no line"]
    except HouseError:
        return ["refused"]


def played(house, lines):
    """The answers to lines, one by one."""
    return [answered(house, line) for line in lines]


def _answer(house, line):
    if not isinstance(line, str):
        raise BadLine("no text")
    word, _, rest = line.partition(" ")
    if line in _BARE:
        told = _BARE[line]
        return told(house)
    # A word that wants more has a blank behind it.
    if word == line or word not in _WITH_MORE:
        raise BadLine("no word of a desk")
    done = _WITH_MORE[word]
    return done(house, rest)


def _end(house):
    found = house.end()
    if found is None:
        return ["going"]
    if found[0] == "good":
        return ["good"] + [record_text(record) for record in found[1]]
    return [" ".join(found)]


def _book(house):
    return [str(len(house.book()))]


def _turns(house, rest):
    many = _number_in(rest)
    if not within(many, 1, MOST_TURNS):
        raise BadLine("no number of turns")
    for _ in range(many):
        house.go()
    return [f"turn {house.turn()}"]


def _ask(house, rest):
    text, _, kind = rest.partition(" ")
    if not is_kind(kind):
        raise BadLine("no kind")
    house.ask(_name_in(text), kind)
    return ["asked"]


def _zone(house, rest):
    return zone_text(house.zone(_number_in(rest))).split("\n")


def _put(house, rest):
    addr, record = _addr_and_record(rest)
    house.change(addr, [], [], [record])
    return ["done"]


def _take(house, rest):
    addr, record = _addr_and_record(rest)
    house.change(addr, [], [record], [])
    return ["done"]


def _follow(house, rest):
    return [house.follow(_number_in(rest))]


def _sleep(house, rest):
    house.sleep(_number_in(rest))
    return ["done"]


def _wake(house, rest):
    house.wake(_number_in(rest))
    return ["done"]


_BARE = {"end": _end, "book": _book}
_WITH_MORE = {
    "turns": _turns, "ask": _ask, "zone": _zone, "put": _put, "take": _take,
    "follow": _follow, "sleep": _sleep, "wake": _wake,
}


def _number_in(text):
    number = number_of(text)
    if number is None:
        raise BadLine("no number")
    return number


def _name_in(text):
    try:
        return name_of(text)
    except BadName:
        raise BadLine("no name") from None


def _addr_and_record(text):
    word, _, rest = text.partition(" ")
    addr = _number_in(word)
    record = record_of(rest)
    if record is None:
        raise BadLine("no record")
    return addr, record
