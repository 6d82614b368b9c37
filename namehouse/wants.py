"""What is wanted of what is handed in; the refusals of anything else."""

from namehouse.bounds import is_whole
from namehouse.errors import BadName, BadRecord, BadTurn
from namehouse.names import is_name
from namehouse.records import is_kind


def want_name(thing):
    """BadName of anything but a name."""
    if not is_name(thing):
        raise BadName("no name")


def want_kind(thing):
    """BadRecord of anything but a kind."""
    if not is_kind(thing):
        raise BadRecord("no kind")


def want_turn(thing):
    """BadTurn of anything but a whole number from 0 on."""
    if not is_whole(thing) or thing < 0:
        raise BadTurn("no turn")
