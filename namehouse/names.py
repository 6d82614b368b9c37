"""Labels, names, their texts and their order."""

from namehouse.errors import BadName

STAR = "*"
# Each sign stands at the place that it has in a letter's row.
LABEL_SIGNS = "abcdefghijklmnopqrstuvwxyz0123456789-*"
MOST_SIGNS = 8
MOST_LABELS = 6


def is_label(thing):
    """Whether thing is a label: the star, or a text of 1 to 8 signs."""
    if not isinstance(thing, str) or not 1 <= len(thing) <= MOST_SIGNS:
        return False
    if STAR in thing:
        return thing == STAR
    return all([sign in LABEL_SIGNS for sign in thing])


def is_name(thing):
    """Whether thing is a name: a tuple of 0 to 6 labels, a star the first one alone."""
    if not isinstance(thing, tuple) or len(thing) > MOST_LABELS:
        return False
    return all([is_label(label) for label in thing]) and STAR not in thing[1:]


def is_starless(thing):
    """Whether thing is a name without a star."""
    return is_name(thing) and STAR not in thing


def name_of(text):
    """The name whose text this is."""
    if not isinstance(text, str) or not text.endswith("."):
        raise BadName("a name's text ends in a dot")
    if text == ".":
        return ()
    name = tuple(text[:-1].split("."))
    if not is_name(name):
        raise BadName("no name's text")
    return name


def text_of(name):
    """The name's text: a dot behind each label, and the dot alone for ()."""
    _want_name(name)
    if not name:
        return "."
    return "".join([label + "." for label in name])


def below(name, other):
    """Whether the last labels of name are those of other."""
    _want_name(name)
    _want_name(other)
    if len(name) < len(other):
        return False
    return name[len(name) - len(other):] == other


def star_of(name):
    """The name with a star in the place of its first label."""
    _want_name(name)
    if not name:
        raise BadName("a name without a label has no place for a star")
    return star_ahead(name[1:])


def star_ahead(name):
    """The star ahead of a name of five labels at the most."""
    return (STAR,) + name


def ordered_names(names):
    """A new list of the names, in order."""
    if not isinstance(names, list) or not all([is_name(name) for name in names]):
        raise BadName("no list of names")
    return sorted(names, key=name_rank)


def name_rank(name):
    """What a name is ordered by: its labels from the last one on."""
    return name[::-1]


def _want_name(thing):
    if not is_name(thing):
        raise BadName("no name")
