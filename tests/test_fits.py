"""Whether the root of a tree fits another tree."""

import itertools
import unittest

from onlyjoins.trees import fits_root
from shapes import LEAF, built, chain, shapes


def mark(*words):
    return (words, ())


def store_of(tree):
    """The marks of each node by its number, and the edges: a tree as a store."""
    marks, edges = [], []

    def add(node):
        number = len(marks)
        marks.append(node[0])
        for word, below in node[1]:
            edges.append((number, word, add(below)))
        return number

    add(tree)
    return marks, edges


def fits(store, node, pattern):
    """The document's words, as they stand."""
    marks, edges = store
    return set(pattern[0]) <= set(marks[node]) and all(
        any(start == node and word == wanted and fits(store, end, below) for start, word, end in edges)
        for wanted, below in pattern[1])


def small_trees():
    """All trees of up to three nodes with few marks and words."""
    marks, words = [(), ("a",), ("a", "b")], ["e", "f"]
    leaves = [(one, ()) for one in marks]
    branches = list(itertools.product(words, leaves))
    one = [(own, (branch,)) for own in marks for branch in branches]
    two = [(own, pair) for own in marks for pair in itertools.product(branches, repeat=2)]
    deep = [(own, ((word, tree),)) for own in marks[:2] for word in words for tree in one]
    return leaves + one + two + deep


class FitsRootTest(unittest.TestCase):

    def assert_fits(self, tree, pattern):
        self.assertIs(fits_root(tree, pattern), True)

    def assert_fails(self, tree, pattern):
        self.assertIs(fits_root(tree, pattern), False)

    def test_marks(self):
        every = [(), ("a",), ("b",), ("c",), ("a", "b"), ("a", "c"), ("b", "c"), ("a", "b", "c")]
        for have in every:
            for want in every:
                self.assertIs(fits_root((have, ()), (want, ())), set(want) <= set(have))
                below = ((), (("e", (have, ())),)), ((), (("e", (want, ())),))
                self.assertIs(fits_root(*below), set(want) <= set(have))

    def test_each_way_between_a_tree_and_a_greater_one(self):
        self.assert_fits(((), (("e", mark("a")),)), LEAF)
        self.assert_fails(LEAF, ((), (("e", LEAF),)))
        self.assert_fits((("a",), (("e", LEAF),)), mark("a"))
        self.assert_fails(mark("a"), (("a",), (("e", LEAF),)))

    def test_several_branches_may_go_to_one_node(self):
        tree = ((), (("e", mark("a", "b")),))
        self.assert_fits(tree, ((), (("e", mark("a")), ("e", mark("b")))))
        self.assert_fits(tree, ((), (("e", mark("a")),) * 3))
        self.assert_fits(tree, ((), (("e", LEAF), ("e", mark("a", "b")), ("e", mark("b")))))
        self.assert_fails(tree, ((), (("e", mark("a")), ("e", mark("c")))))

    def test_one_branch_needs_one_node_for_all_it_wants(self):
        tree = ((), (("e", mark("a")), ("e", mark("b"))))
        self.assert_fails(tree, ((), (("e", mark("a", "b")),)))
        self.assert_fits(tree, ((), (("e", mark("b")), ("e", mark("a")))))

    def test_words_of_branches(self):
        tree = ((), (("e", mark("a")), ("f", mark("b"))))
        self.assert_fits(tree, ((), (("f", mark("b")),)))
        self.assert_fits(tree, ((), (("f", LEAF), ("e", LEAF))))
        self.assert_fails(tree, ((), (("f", mark("a")),)))
        self.assert_fails(tree, ((), (("g", LEAF),)))
        self.assert_fails(tree, ((), (("e", LEAF), ("g", LEAF))))
        self.assert_fails(tree, ((), (("ee", LEAF),)))

    def test_a_later_branch_is_taken_if_an_earlier_one_fails_below(self):
        bad, good = ((), (("e", mark("a")),)), ((), (("e", mark("b")),))
        for row in itertools.permutations([bad, bad, good]):
            tree = ((), tuple(("e", below) for below in row))
            self.assert_fits(tree, ((), (("e", good),)))
            self.assert_fits(tree, ((), (("e", good), ("e", bad), ("e", good))))
            self.assert_fails(tree, ((), (("e", ((), (("e", mark("c")),))),)))
        self.assert_fails(((), (("e", bad), ("e", bad))), ((), (("e", bad), ("e", good))))

    def test_patterns_that_lie_deeper(self):
        for high in range(5):
            for deep in range(5):
                self.assertIs(fits_root(chain(high), chain(deep)), deep <= high)
        self.assert_fails(chain(2, bottom=mark("a")), chain(1, bottom=mark("a")))
        self.assert_fails(chain(1, bottom=mark("a")), chain(2, bottom=mark("a")))

    def test_the_root_alone_is_asked(self):
        tree = ((), (("e", (("a",), (("f", LEAF),))),))
        self.assert_fails(tree, mark("a"))
        self.assert_fails(tree, ((), (("f", LEAF),)))
        self.assert_fits(tree, ((), (("e", (("a",), (("f", LEAF),))),)))

    def test_as_the_document_says_for_all_small_trees(self):
        trees = small_trees()
        stores = [store_of(tree) for tree in trees]
        for tree, store in zip(trees, stores):
            for pattern in trees:
                if fits_root(tree, pattern) is not fits(store, 0, pattern):
                    self.fail((tree, pattern))

    def test_as_the_document_says_for_all_shapes(self):
        trees = [built(shape, ()) for nodes in range(1, 7) for shape in shapes(nodes)]
        for tree in trees:
            store = store_of(tree)
            for pattern in trees:
                if fits_root(tree, pattern) is not fits(store, 0, pattern):
                    self.fail((tree, pattern))

    def test_many_marks_and_branches(self):
        letters = "abcdefghijklmnopqrstuvwxyz"
        many = tuple(sorted(one + other for one in letters for other in letters))
        self.assert_fits((many, ()), (many, ()))
        self.assert_fits((many, ()), (many[::7], ()))
        self.assert_fails((many[1:], ()), (many, ()))
        self.assert_fails((many, ()), (many + ("zzz",), ()))
        self.assert_fails((many[:-1], ()), mark("zz"))
        wide = ((), tuple(("e", mark(word)) for word in many))
        self.assert_fits(wide, wide)
        self.assert_fits(wide, ((), wide[1][::-1]))
        self.assert_fails(((), wide[1][:-1]), wide)
        self.assert_fits(((), (("e", (many, ())),)), wide)
        self.assert_fails(wide, ((), (("e", (many, ())),)))

    def test_wide_and_alike(self):
        wide = ((), (("e", mark("a")),) * 4000)
        self.assert_fits(wide, wide)
        self.assert_fits(((), (("e", mark("a")),)), wide)
        self.assert_fails(((), (("e", mark("b")),) * 4000), wide)

    def test_deep_trees(self):
        deep = chain(149, marks=("a",), bottom=mark("b"))
        self.assert_fits(deep, deep)
        self.assert_fits(deep, chain(149))
        self.assert_fits(deep, chain(148, marks=("a",)))
        self.assert_fails(deep, chain(149, marks=("a",), bottom=mark("c")))
        self.assert_fails(deep, chain(148, marks=("a",), bottom=mark("b")))
        self.assert_fails(chain(148), chain(149))
        self.assert_fits(chain(5000), chain(5000))
        self.assert_fails(chain(5000, bottom=mark("a")), chain(5000, bottom=mark("b")))

    def test_deep_trees_with_many_ways_down(self):
        tree = pattern = mark("a")
        for _ in range(140):
            tree = (("a",), (("e", LEAF), ("e", tree), ("f", LEAF), ("e", mark("a"))))
            pattern = ((), (("e", LEAF), ("e", pattern), ("e", mark("a")), ("f", LEAF)))
        self.assert_fits(tree, pattern)
        self.assert_fits(tree, tree)
        self.assert_fits(((), (("e", tree),)), ((), (("e", tree), ("e", pattern))))
        self.assert_fails(tree, ((), (("e", pattern),)))

    def test_equal_calls_are_equal(self):
        tree, pattern = ((), (("e", mark("a")),)), ((), (("e", LEAF),))
        self.assertEqual([fits_root(tree, pattern) for _ in range(3)], [True] * 3)
        self.assertEqual(tree, ((), (("e", mark("a")),)))

    def test_names_of_parameters(self):
        self.assertIs(fits_root(tree=mark("a"), pattern=LEAF), True)
        self.assertIs(fits_root(pattern=mark("a"), tree=LEAF), False)


if __name__ == "__main__":
    unittest.main()
