"""What a tree and a body are, at the edges and beyond."""

import itertools
import unittest

from onlyjoins.trees import is_body, is_tree, is_word
from shapes import CALL, LEAF, built, chain, level_of, odd_values, shapes, width_of


def under(tree, word="e"):
    return ((), ((word, tree),))


class TreesTest(unittest.TestCase):

    def assert_tree(self, thing):
        self.assertIs(is_tree(thing), True, thing)
        self.assertIs(is_body(thing), False, thing)

    def assert_body(self, thing):
        self.assertIs(is_tree(thing), False, thing)
        self.assertIs(is_body(thing), True, thing)

    def assert_neither(self, thing):
        self.assertIs(is_tree(thing), False)
        self.assertIs(is_body(thing), False)

    def test_every_shape_up_to_eight_nodes(self):
        for nodes in range(1, 9):
            for shape in shapes(nodes):
                fine = nodes <= 6 and level_of(shape) <= 3 and width_of(shape) <= 3
                for marks in [(), ("a",), ("a", "b", "c")]:
                    tree = built(shape, (), marks)
                    self.assertIs(is_tree(tree), fine, tree)
                    self.assertIs(is_body(tree), False, tree)

    def test_every_place_of_a_call(self):
        for nodes in range(1, 8):
            for shape in shapes(nodes):
                fine = nodes <= 6 and level_of(shape) <= 3 and width_of(shape) <= 3
                for number in range(nodes):
                    body = built(shape, (number,))
                    self.assertIs(is_body(body), fine and number > 0, body)
                    self.assertIs(is_tree(body), False, body)

    def test_two_calls_and_more_are_none(self):
        for nodes in range(2, 6):
            for shape in shapes(nodes):
                for many in range(2, nodes + 1):
                    for calls in itertools.combinations(range(nodes), many):
                        self.assert_neither(built(shape, calls))

    def test_levels(self):
        for levels in range(4):
            self.assert_tree(chain(levels))
            if levels:
                self.assert_body(chain(levels, bottom=CALL))
        self.assert_neither(chain(4))
        self.assert_neither(chain(4, bottom=CALL))
        self.assert_neither(chain(3, bottom=((), (("e", LEAF),), "call")))

    def test_nodes(self):
        pair = ((), (("e", LEAF), ("f", LEAF)))
        self.assert_tree(((), (("e", pair), ("e", LEAF), ("e", LEAF))))
        self.assert_neither(((), (("e", pair), ("e", LEAF), ("e", under(LEAF)))))
        self.assert_body(((), (("e", pair), ("e", LEAF), ("e", CALL))))
        self.assert_neither(((), (("e", pair), ("e", under(LEAF)), ("e", CALL))))

    def test_a_call_may_have_marks_and_branches(self):
        self.assert_body(under((("a", "b"), (("e", LEAF), ("f", under(LEAF))), "call")))
        self.assert_body(under(((), (("e", LEAF),) * 3, "call")))
        self.assert_neither(under(((), (("e", CALL),), "call")))
        self.assert_neither(under((("b", "a"), (), "call")))
        self.assert_neither(under(((), (("e", LEAF),) * 4, "call")))

    def test_the_root_is_no_call(self):
        self.assert_neither(CALL)
        self.assert_neither(((), (("e", LEAF),), "call"))
        self.assert_neither(((), (("e", CALL),), "call"))

    def test_branches(self):
        for many in range(4):
            self.assert_tree(((), (("e", LEAF),) * many))
        self.assert_neither(((), (("e", LEAF),) * 4))
        self.assert_neither(under(((), (("e", LEAF),) * 4)))
        self.assert_body(((), (("e", LEAF), ("e", LEAF), ("e", CALL))))
        self.assert_neither(((), (("e", LEAF), ("e", LEAF), ("e", LEAF), ("e", CALL))))

    def test_branches_may_stand_in_any_order(self):
        self.assert_tree(((), (("f", LEAF), ("e", LEAF), ("f", LEAF))))
        self.assert_tree(((), (("e", under(LEAF)), ("e", LEAF))))

    def test_marks(self):
        for marks in [(), ("a",), ("a", "b"), ("a", "b", "c"), ("a", "aa", "ab"), ("z", "zz", "zzz"), ("b", "ba")]:
            self.assert_tree((marks, ()))
            self.assert_tree(under((marks, ())))
            self.assert_body(under((marks, (), "call")))

    def test_wrong_marks(self):
        wrong = [("b", "a"), ("a", "a"), ("a", "b", "b"), ("a", "a", "b"), ("a", "c", "b"), ("b", "c", "a"),
                 ("aa", "a"), ("a", "b", "c", "d"), ("",), ("a", ""), ("A",), ("a", "B"), ("a", 1), (1,), (None,),
                 (True,), (b"a",), (("a",),), ["a"], [], {"a": 1}, {"a"}, "a", "abc", "", None, 0, True]
        for marks in wrong:
            self.assert_neither((marks, ()))
            self.assert_neither(under((marks, ())))
            self.assert_neither(under((marks, (), "call")))

    def test_words(self):
        good = ["a", "z", "m", "abcdefgh", "zzzzzzzz", "call", "end"]
        bad = ["", "abcdefghi", "a" * 30000, "A", "aB", "a b", " a", "a ", "a\n", "a1", "1", "_", "a-b", "`", "{",
               "\u00e9", "\u00df", "\u0430", "\uff41", "\x00", "a\u0301"]
        for word in good:
            self.assertIs(is_word(word), True, word)
            self.assert_tree(((word,), ()))
            self.assert_tree(under(LEAF, word))
            self.assert_body(under(CALL, word))
        for word in bad:
            self.assertIs(is_word(word), False, word)
            self.assert_neither(((word,), ()))
            self.assert_neither(under(LEAF, word))
            self.assert_neither(under(CALL, word))

    def test_third_items_that_are_no_call(self):
        for third in ["Call", "CALL", "cal", "calls", " call", "", b"call", ("call",), ["call"], 1, None, True, False]:
            self.assert_neither(under(((), (), third)))
            self.assert_neither(((), (), third))
        for third in odd_values():
            self.assert_neither(under(((), (), third)))
        self.assert_neither(under(((), (), "call", "call")))
        self.assert_neither(under((("call", (), ()))))

    def test_a_call_is_looked_at_as_a_whole(self):
        self.assert_body(((), (("e", CALL), ("f", LEAF))))
        self.assert_neither(((), (("e", CALL), ("f", ((), None)))))
        self.assert_neither(((), (("e", ((), None)), ("f", CALL))))

    def test_odd_values_in_each_place(self):
        for thing in odd_values():
            self.assert_neither(thing)
            if not isinstance(thing, tuple) or thing:
                self.assert_neither((thing, ()))
                self.assert_neither(((), thing))
            self.assert_neither(((), (thing,)))
            self.assert_neither(((), (("e", LEAF), thing)))
            self.assert_neither(((), ((thing, LEAF),)))
            self.assert_neither(((), (("e", thing),)))
            self.assert_neither(((thing,), ()))
            self.assert_neither((("a", thing), ()))
            self.assert_neither(under((("a", thing), (), "call")))
            self.assert_neither(under(((), (thing,), "call")))
            self.assert_neither(under(((), (("e", thing),), "call")))

    def test_lists_are_no_tuples(self):
        self.assert_neither([(), ()])
        self.assert_neither(([], ()))
        self.assert_neither(((), []))
        self.assert_neither(((), [("e", LEAF)]))
        self.assert_neither(((), (["e", LEAF],)))
        self.assert_neither(((), (("e", [(), ()]),)))
        self.assert_neither(under([(), (), "call"]))

    def test_pairs_of_another_length(self):
        self.assert_neither(((),))
        self.assert_neither(((), (), ()))
        self.assert_neither(((), (), (), ()))
        self.assert_neither(((), (("e",),)))
        self.assert_neither(((), (("e", LEAF, LEAF),)))
        self.assert_neither(((), ("e", LEAF)))

    def test_great_values_are_told_at_once(self):
        self.assert_neither(chain(149))
        self.assert_neither(chain(149, bottom=CALL))
        self.assert_neither(((), (("e", LEAF),) * 5000))
        self.assert_neither((tuple(["a"] * 20000), ()))
        wide = LEAF
        for _ in range(200):
            wide = ((), (("e", wide),) * 3)
        self.assert_neither(wide)

    def test_nothing_is_changed_and_equal_calls_are_equal(self):
        rows = [[("e", LEAF)], ["a"]]
        for thing in [(rows[1], ()), ((), rows[0])]:
            self.assertEqual([is_tree(thing), is_tree(thing), is_body(thing)], [False, False, False])
        self.assertEqual(rows, [[("e", LEAF)], ["a"]])

    def test_names_of_parameters(self):
        self.assertIs(is_tree(thing=LEAF), True)
        self.assertIs(is_body(thing=under(CALL)), True)


if __name__ == "__main__":
    unittest.main()
