"""What a zone tells of a name and a kind, and the letter that answers an ask."""

from namehouse.errors import BadLetter
from namehouse.letters import is_letter, row_of
from namehouse.lookup import data_of, handed_on_for, is_there, named, nearest_above, of_kind, of_name, set_of, top_of
from namehouse.names import below, star_ahead
from namehouse.wants import want_kind, want_name


def told(zone, name, kind):
    """What the zone tells: (outcome, answers, keepers, beside)."""
    want_name(name)
    want_kind(kind)
    if not below(name, zone.origin):
        return "refused", [], [], []
    return _told(zone.origin, zone.records(), name, kind, [name])


def _told(origin, records, name, kind, passed):
    """What is told of a name below the origin; passed are the names that were asked or gone through, this one too."""
    place = handed_on_for(records, origin, name, kind)
    if place is not None:
        return _handed(records, place)
    here = of_name(records, name)
    if not is_there(records, name):
        here = _by_star(records, name)
        if not here:
            return "lacking", [], [top_of(records)], []
    wanted = of_kind(here, kind)
    if wanted:
        return "good", wanted, [], []
    others = of_kind(here, "other")
    if not others:
        return "empty", [], [top_of(records)], []
    onward = others[0][3]
    if not below(onward, origin) or onward in passed:
        return "good", others, [], []
    outcome, answers, keepers, beside = _told(origin, records, onward, kind, passed + [onward])
    return outcome, others + answers, keepers, beside


def _handed(records, place):
    """The keepers of a handed-on name, and the addrs of those that they tell."""
    keepers = set_of(records, place, "keeper")
    names = data_of(keepers)
    return "handed", [], keepers, [record for record in of_kind(records, "addr") if record[0] in names]


def _by_star(records, name):
    """The records of the star ahead of the nearest name above that is there, told as those of a name that isn't."""
    return named(of_name(records, star_ahead(nearest_above(records, name))), name)


def answer_of(zone, letter):
    """The letter that answers an ask with what the zone tells."""
    if not is_letter(letter) or letter[1] != "ask":
        raise BadLetter("no ask")
    number, _, name, kind = letter[:4]
    answer = (number, "answer", name, kind) + told(zone, name, kind)
    try:
        row_of(answer)
    except BadLetter:
        return number, "answer", name, kind, "refused", [], [], []
    return answer
