"""What stands where in a list of records."""

from namehouse.names import below


def of_name(records, name):
    """The records of a name."""
    return [record for record in records if record[0] == name]


def of_kind(records, kind):
    """The records of a kind."""
    return [record for record in records if record[1] == kind]


def set_of(records, name, kind):
    """The records of a name and a kind."""
    return of_kind(of_name(records, name), kind)


def data_of(records):
    """The data of the records."""
    return [data for name, kind, live, data in records]


def is_there(records, name):
    """Whether a name, or one below it, has records."""
    return any([below(record[0], name) for record in records])


def nearest_above(records, name):
    """The nearest name above that is there, of a name that isn't and that is below the top's."""
    above = name[1:]
    while not is_there(records, above):
        above = above[1:]
    return above


def named(records, name):
    """The records with another name put."""
    return [(name,) + record[1:] for record in records]


def top_of(records):
    """The top of a zone's records."""
    return of_kind(records, "top")[0]


def handed_keepers(records, origin):
    """The keepers of handed-on names: names below the origin, and not it."""
    return [record for record in of_kind(records, "keeper") if record[0] != origin]


def handed_on_for(records, origin, name, kind):
    """The handed-on name at which a zone hands on, asked for a name and a kind; None where it doesn't."""
    found = [record[0] for record in handed_keepers(records, origin) if below(name, record[0])]
    # What the zone itself tells of a handed-on name are its trusts.
    if not found or (name == found[0] and kind == "trust"):
        return None
    return found[0]
