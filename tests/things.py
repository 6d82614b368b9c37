"""Things of many kinds that no function wants, and a comparison that tells kinds apart."""


class Agreeing:
    """Says of everything that it is equal to it."""

    def __eq__(self, other):
        return True

    def __hash__(self):
        return 1


def odd_things():
    """New things of many kinds: none is a label, a name, a text of one, a record, a letter or a row."""
    return [
        None, True, False, 0, 1, -1, 5, 2.0, 1j, b"", b"a", b"a.", bytearray(b"a."), {}, {"a": 1}, set(), {"a"},
        frozenset(["a"]), object(), Agreeing(), len, str, range(3), iter([]), Ellipsis, [None], [[]], [()[:0], None],
        (None,), (1,), ((),), ([],), ("a", None), ("a", 1), ("a", b"b"), ("a", ("b",)), ("A",), ("",), (True,),
    ]


def same(first, second):
    """Whether both are equal and of the same kinds throughout: True isn't 1, a list is no tuple."""
    if type(first) is not type(second):
        return False
    if isinstance(first, (list, tuple)):
        return len(first) == len(second) and all(same(a, b) for a, b in zip(first, second))
    return first == second
