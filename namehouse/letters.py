"""Letters and their rows."""

from namehouse.bounds import within
from namehouse.errors import BadLetter
from namehouse.names import is_name
from namehouse.records import are_records, is_kind
from namehouse.rowreader import RowReader
from namehouse.rowwriter import RowWriter

WAYS = ("ask", "answer")
OUTCOMES = ("good", "empty", "lacking", "handed", "refused")
HIGHEST_NUMBER = 65535
MOST_RECORDS = 61
LONGEST_ROW = 2000


def is_letter(thing):
    """Whether thing is a letter, an ask or an answer."""
    if not isinstance(thing, tuple) or len(thing) != 8:
        return False
    number, way, name, kind, outcome, answers, keepers, beside = thing
    if not (within(number, 0, HIGHEST_NUMBER) and _is_one_of(way, WAYS) and is_name(name) and is_kind(kind)):
        return False
    if not (_is_one_of(outcome, OUTCOMES) and all([are_records(part) for part in (answers, keepers, beside)])):
        return False
    many = len(answers) + len(keepers) + len(beside)
    if way == "ask":
        return outcome == "good" and many == 0
    return many <= MOST_RECORDS


def _is_one_of(thing, words):
    return isinstance(thing, str) and thing in words


def row_of(letter):
    """The letter's row: a new list of numbers from 0 to 255."""
    if not is_letter(letter):
        raise BadLetter("no letter")
    number, way, name, kind, outcome, answers, keepers, beside = letter
    writer = RowWriter()
    writer.put_number(number, 2)
    writer.put_number(WAYS.index(way), 1)
    writer.put_number(OUTCOMES.index(outcome), 1)
    writer.put_name(name)
    writer.put_kind(kind)
    for part in (answers, keepers, beside):
        writer.put_records(part)
    row = writer.told()
    if len(row) > LONGEST_ROW:
        raise BadLetter("a letter whose row is too long")
    return row


def letter_of(row):
    """The letter whose row this is."""
    if not isinstance(row, list) or len(row) > LONGEST_ROW:
        raise BadLetter("no row, or one that is too long")
    if not all([within(number, 0, 255) for number in row]):
        raise BadLetter("a row is of numbers from 0 to 255")
    reader = RowReader(row)
    number = reader.number(2)
    way = reader.word(WAYS)
    outcome = reader.word(OUTCOMES)
    name = reader.name()
    kind = reader.kind()
    answers = reader.records()
    keepers = reader.records()
    beside = reader.records()
    letter = (number, way, name, kind, outcome, answers, keepers, beside)
    if not reader.at_end() or not is_letter(letter):
        raise BadLetter("a row that is longer than its letter, or no letter's")
    return letter
