"""What several files of tests use: small trees, and values of every kind."""

LEAF = ((), ())
CALL = ((), (), "call")


class Claims:
    """Says of itself that it equals everything, and is neither empty nor long."""

    def __eq__(self, other):
        return True

    def __hash__(self):
        return 0


class Refuses:
    """Cannot be compared, counted, tested or shown."""

    def __eq__(self, other):
        raise RuntimeError("compared")

    def __len__(self):
        raise RuntimeError("counted")

    def __iter__(self):
        raise RuntimeError("gone through")

    def __bool__(self):
        raise RuntimeError("tested")

    def __repr__(self):
        raise RuntimeError("shown")


def odd_values():
    """Values of every kind, none of which is a tree, a body, rules, or a word."""
    return [
        True, False, None, 0, 1, 2, -1, 10 ** 999, "", "A", "a b", "1", "\n", "abcdefghi", b"", b"a", b"call",
        [], ["a"], [[], []], [(), ()], {}, {"a": ()}, set(), {"a"}, frozenset(), (), ((),), (1, 2), (None, None),
        object(), Claims(), Refuses(), len, odd_values, lambda: ((), ()), int, ValueError("a"), range(2),
        iter([1, 2]), memoryview(b"ab"), bytearray(b"a"), 1j, Ellipsis, NotImplemented,
    ]


def no_unfoldings():
    """Values that no rules have as an unfolding."""
    great = 10 ** 999
    deep = (0, 0)
    for _ in range(200):
        deep = (deep, 0)
    return [value for value in odd_values() if not isinstance(value, tuple)] + [
        (), ((),), ((0,),), ((0,), 0), (0, (0,)), [0], [0, 0], (0, [0]), ([0], 0), "0", "00", ("0",), ("0", 0),
        (0, "0"), b"\x00", (b"\x00",), (None,), (None, 0), (0, None), (True,), (False,), (False, 0), (0, False),
        (True, 0), (0, True), (-1,), (0, -1), (-1, 0), (great,), (0, great), (great, 0), (-great,), (0, -great),
        {0: 0}, {0}, range(1), deep, (0,) * 30000, (0,) * 29999 + (None,), (None,) + (0,) * 29999,
    ]


def chain(levels, word="e", marks=(), bottom=LEAF):
    """A tree with one node at each level down to the bottom."""
    tree = bottom
    for _ in range(levels):
        tree = (marks, ((word, tree),))
    return tree


def forests(nodes):
    """All rows of shapes with so many nodes together; a shape is the tuple of the shapes below it."""
    if nodes == 0:
        return [()]
    return [(first,) + rest
            for size in range(1, nodes + 1)
            for first in shapes(size)
            for rest in forests(nodes - size)]


def shapes(nodes):
    """All shapes with so many nodes."""
    return forests(nodes - 1)


def level_of(shape):
    return max([1 + level_of(below) for below in shape], default=0)


def width_of(shape):
    return max([len(shape)] + [width_of(below) for below in shape])


def built(shape, calls, marks=(), word="e"):
    """The tree of a shape, with calls at the nodes of these numbers, counted from the root on."""
    return _built(shape, calls, marks, word, 0)[0]


def _built(shape, calls, marks, word, number):
    after = number + 1
    branches = []
    for below in shape:
        tree, after = _built(below, calls, marks, word, after)
        branches.append((word, tree))
    node = (marks, tuple(branches))
    return (node + ("call",) if number in calls else node), after
