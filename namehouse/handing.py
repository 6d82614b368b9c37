"""Handed on: where to, and the addrs of the keepers there."""

from namehouse.lookup import data_of, of_kind, of_name
from namehouse.names import below, ordered_names


def handed_place(keepers, place, name, kind):
    """The name to which keepers hand on from a place, a name and a kind being looked for; None where they don't."""
    names = sorted({record[0] for record in keepers})
    if len(names) != 1 or len(of_kind(keepers, "keeper")) != len(keepers):
        return None
    onward = names[0]
    if not below(onward, place) or onward == place or not below(name, onward):
        return None
    if kind == "trust" and name == onward:
        return None
    return onward


def each_keeper(keepers):
    """The names that keeper records tell, in order, each once."""
    return ordered_names(sorted(set(data_of(of_kind(keepers, "keeper")))))


def told_addrs(keepers, beside):
    """The addrs among what is told beside whose names the keepers tell."""
    names = data_of(of_kind(keepers, "keeper"))
    return [record for record in of_kind(beside, "addr") if record[0] in names]


def addrs_of(records, name):
    """The addrs among records of addrs that are a name's, rising, each once."""
    return sorted(set(data_of(of_name(records, name))))
