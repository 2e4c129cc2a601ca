"""Rules and stores for several files of tests: well-known ones, and many made by a numbered source."""

import random

from onlyjoins.rules import Rules
from onlyjoins.stores import Store
from shapes import CALL, LEAF


def mark(*words):
    return words, ()


def under(tree, word="e", marks=()):
    return marks, ((word, tree),)


STEP = under(CALL)
# Whoever reaches the mark a by edges: the calls are needed.
CHAIN = Rules([mark("a")], [STEP])
# If some edge is enough, they never are.
WIDE = Rules([under(LEAF), mark("a")], [STEP])
# Two ends, and steps at levels 1 to 3, one with a call that has marks and branches of its own.
MIXED = Rules(
    [mark("a"), under(mark("b"), "f")],
    [STEP, (("c",), (("f", LEAF), ("e", under((("a", "d"), (("g", LEAF),), "call"))))),
     under(under(under((("b",), (), "call"), "g"), "f"))])


def great_rules():
    """Three ends and three steps of six nodes each."""
    ends = [
        ((), (("e", mark("a")), ("e", LEAF), ("e", ((), (("e", LEAF), ("e", mark("b"))))))),
        ((), (("e", LEAF), ("e", ((), (("e", LEAF), ("e", under(LEAF))))))),
        ((), (("e", mark("a")), ("e", under(LEAF)), ("e", under(mark("c"))))),
    ]
    steps = [
        ((), (("e", LEAF), ("e", ((), (("e", LEAF), ("e", LEAF)), "call")), ("e", LEAF))),
        ((), (("e", LEAF), ("e", ((), (("e", under(LEAF)),), "call")), ("e", LEAF))),
        (("c",), (("e", CALL), ("e", under(LEAF)), ("e", LEAF))),
    ]
    return Rules(ends, steps)


class Maker:
    """Makes the same trees, bodies, rules and stores for the same number."""

    def __init__(self, number, marks="ab", words="ef", nodes=6):
        self.source = random.Random(number)
        self.marks = marks
        self.words = words
        self.nodes = nodes

    def tree(self):
        return self.built(self.shape(self.source.randint(1, self.nodes), 3), -1, [0])

    def body(self):
        many = self.source.randint(2, self.nodes)
        return self.built(self.shape(many, 3), self.source.randint(1, many - 1), [0])

    def rules(self, steps=3, ends=3):
        chosen = self.source.randint
        return Rules([self.tree() for _ in range(chosen(1, ends))], [self.body() for _ in range(chosen(0, steps))])

    def store(self, most=8):
        nodes = tuple("abcdefghijkl"[:self.source.randint(1, most)])
        some = self.source.random
        marked = [(node, word) for node in nodes for word in self.marks if some() < 0.4]
        edges = [(node, word, other) for node in nodes for other in nodes for word in self.words
                 if some() < 1.6 / len(nodes)]
        return Store(nodes, marked, edges)

    def shape(self, nodes, levels):
        """A row of shapes with so many nodes, the root counted, none deeper than levels."""
        below, left = [], nodes - 1
        while left:
            room = self.most(levels - 1)
            least = max(1, left - (2 - len(below)) * room)
            size = self.source.randint(least, min(left, room))
            below.append(self.shape(size, levels - 1))
            left -= size
        return below

    def most(self, levels):
        return 1 + (3 * self.most(levels - 1) if levels else 0)

    def built(self, shape, call, count):
        number = count[0]
        count[0] += 1
        marks = tuple(word for word in self.marks if self.source.random() < 0.3)
        branches = tuple((self.source.choice(self.words), self.built(below, call, count)) for below in shape)
        return (marks, branches, "call") if number == call else (marks, branches)


def many_rules(numbers, steps=3, ends=3, nodes=6):
    """Rules with few and with more marks and words, by turns."""
    kinds = [("a", "e"), ("ab", "e"), ("ab", "ef"), ("abc", "e"), ("", "e"), ("abc", "ef")]
    for number in numbers:
        maker = Maker(number, *kinds[number % len(kinds)], nodes=nodes)
        yield maker, maker.rules(steps, ends)
