"""Unfoldings: what they are, their trees and depths, and which of them a tree fits."""

import copy
import random
import time
import unittest

from made import CHAIN, MIXED, STEP, WIDE, great_rules, many_rules, mark, under
from onlyjoins.errors import BadUnfolding
from onlyjoins.rules import Rules
from onlyjoins.trees import fits_root
from onlyjoins.unfold import depth_of, earliest, fewest, is_unfolding, shorter, tree_of
from plain import (all_depth, all_tree, level_in, of_tree, plain_fits, plain_least, plain_own, unfoldings)
from shapes import CALL, LEAF, chain, no_unfoldings, odd_values

RULES = [Rules([LEAF], [STEP] * many) for many in range(4)]
LEVELS = Rules([mark("a"), mark("b")], [STEP, under(STEP), under(under(STEP))])


class IsUnfoldingTest(unittest.TestCase):

    def assert_unfolding(self, rules, thing, wanted):
        self.assertIs(is_unfolding(rules, thing), wanted)

    def test_numbers_of_steps_and_ends(self):
        for steps in range(4):
            for ends in range(1, 4):
                rules = Rules([LEAF] * ends, [STEP] * steps)
                for last in range(-1, 5):
                    self.assert_unfolding(rules, (last,), 0 <= last < ends)
                    for first in range(-1, 5):
                        fine = 0 <= first < steps and 0 <= last < ends
                        self.assert_unfolding(rules, (first, last), fine)
                        self.assert_unfolding(rules, (first, first, last), fine)
                        self.assert_unfolding(rules, (first, 0, last), fine)
                        self.assert_unfolding(rules, (0, first, last), fine)

    def test_other_values(self):
        for rules in RULES + [WIDE, MIXED]:
            for thing in no_unfoldings():
                self.assert_unfolding(rules, thing, False)

    def test_odd_values_in_each_place(self):
        for thing in odd_values():
            if isinstance(thing, int) and not isinstance(thing, bool):
                continue
            for row in [(thing,), (thing, 0), (0, thing), (0, thing, 0), (0, 0, thing), (thing, 0, 0)]:
                for rules in RULES:
                    self.assert_unfolding(rules, row, False)

    def test_a_depth_of_130_and_of_131(self):
        for step in range(3):
            many = 130 // (step + 1)
            self.assert_unfolding(LEVELS, (step,) * many + (0,), True)
            self.assert_unfolding(LEVELS, (step,) * (many + 1) + (0,), False)
        self.assert_unfolding(LEVELS, (2,) * 43 + (1,), True)
        self.assert_unfolding(LEVELS, (2,) * 43 + (0, 1), True)
        self.assert_unfolding(LEVELS, (0,) + (2,) * 43 + (1,), True)
        self.assert_unfolding(LEVELS, (0, 0) + (2,) * 43 + (1,), False)
        self.assert_unfolding(LEVELS, (1,) + (2,) * 43 + (1,), False)
        self.assert_unfolding(LEVELS, (1,) * 65 + (1,), True)
        self.assert_unfolding(LEVELS, (0,) + (1,) * 65 + (1,), False)
        self.assert_unfolding(CHAIN, (0,) * 131, True)
        self.assert_unfolding(CHAIN, (0,) * 132, False)


class RefusedTest(unittest.TestCase):

    def test_what_is_no_unfolding_is_refused(self):
        for rules in [RULES[0], RULES[3], MIXED]:
            for thing in no_unfoldings() + [(5,), (0, 5), (5, 0), (0,) * 200]:
                for function in [tree_of, depth_of, shorter]:
                    with self.assertRaises(BadUnfolding) as caught:
                        function(rules, thing)
                    self.assertIs(caught.exception.value, thing)

    def test_depths_that_are_too_great(self):
        for function in [tree_of, depth_of, shorter]:
            function(CHAIN, (0,) * 131)
            with self.assertRaises(BadUnfolding):
                function(CHAIN, (0,) * 132)


class TreeOfTest(unittest.TestCase):

    def test_an_end_alone(self):
        for number, end in enumerate(MIXED.ends):
            self.assertEqual(tree_of(MIXED, (number,)), end)
            self.assertEqual(depth_of(MIXED, (number,)), 0)

    def test_a_call_at_each_level(self):
        for step in range(3):
            self.assertEqual(tree_of(LEVELS, (step, 1)), chain(step + 1, bottom=mark("b")))
            self.assertEqual(depth_of(LEVELS, (step, 1)), step + 1)
            for other in range(3):
                self.assertEqual(tree_of(LEVELS, (step, other, 0)), chain(step + other + 2, bottom=mark("a")))
                self.assertEqual(depth_of(LEVELS, (step, other, 0)), step + other + 2)

    def test_marks_and_branches_of_the_call_and_the_root(self):
        call = (("b", "c"), (("g", LEAF), ("e", mark("x"))), "call")
        end = (("a", "c", "z"), (("e", mark("x")), ("f", LEAF)))
        rules = Rules([end], [under(call, "h", ("q",))])
        joined = (("a", "b", "c", "z"), (("g", LEAF), ("e", mark("x")), ("e", mark("x")), ("f", LEAF)))
        self.assertEqual(tree_of(rules, (0, 0)), (("q",), (("h", joined),)))
        inner = (("b", "c", "q"), (("g", LEAF), ("e", mark("x")), ("h", joined)))
        self.assertEqual(tree_of(rules, (0, 0, 0)), (("q",), (("h", inner),)))

    def test_six_marks_and_six_branches(self):
        call = (("a", "c", "e"), (("e", LEAF),) * 3, "call")
        rules = Rules([(("b", "d", "f"), (("f", LEAF),) * 3)], [under(call)])
        joined = (("a", "b", "c", "d", "e", "f"), (("e", LEAF),) * 3 + (("f", LEAF),) * 3)
        self.assertEqual(tree_of(rules, (0, 0)), under(joined))

    def test_the_call_is_found_among_other_branches(self):
        body = (("a",), (("e", LEAF), ("f", ((), (("g", LEAF), ("g", CALL)))), ("e", LEAF)))
        wanted = (("a",), (("e", LEAF), ("f", ((), (("g", LEAF), ("g", mark("b"))))), ("e", LEAF)))
        rules = Rules([mark("b")], [body])
        self.assertEqual(tree_of(rules, (0, 0)), wanted)
        self.assertEqual(depth_of(rules, (0, 0)), 2)

    def test_mixed_steps_by_hand(self):
        second = (("c",), (("f", LEAF), ("e", under((("a", "d"), (("g", LEAF), ("f", mark("b"))))))))
        self.assertEqual(tree_of(MIXED, (1, 1)), second)
        self.assertEqual(tree_of(MIXED, (0, 1, 1)), under(second))
        third = under(under(under((("b", "c"), second[1]), "g"), "f"))
        self.assertEqual(tree_of(MIXED, (2, 1, 1)), third)
        self.assertEqual(depth_of(MIXED, (2, 1, 1)), 5)
        self.assertEqual(depth_of(MIXED, (0, 2, 1, 1)), 6)

    def test_as_the_document_says_for_many(self):
        for maker, rules in many_rules(range(60)):
            for one in unfoldings(rules, 3):
                self.assertEqual(tree_of(rules, one), all_tree(rules, one))
                self.assertEqual(depth_of(rules, one), all_depth(rules, one))

    def test_a_depth_of_130(self):
        self.assertEqual(tree_of(CHAIN, (0,) * 131), chain(130, bottom=mark("a")))
        self.assertEqual(depth_of(CHAIN, (0,) * 131), 130)
        self.assertEqual(tree_of(LEVELS, (2,) * 43 + (0, 1)), chain(130, bottom=mark("b")))


class LeastTest(unittest.TestCase):

    def test_by_hand(self):
        self.assertEqual((earliest(CHAIN, mark("a")), fewest(CHAIN, mark("a"))), (0, 0))
        self.assertEqual((earliest(CHAIN, LEAF), fewest(CHAIN, LEAF)), (None, None))
        self.assertEqual((earliest(CHAIN, under(LEAF)), fewest(CHAIN, under(LEAF))), (None, None))
        self.assertEqual(earliest(CHAIN, under(mark("a"), "f")), None)
        for levels in range(6):
            tree = chain(levels, bottom=mark("a", "b"))
            self.assertEqual((earliest(CHAIN, tree), fewest(CHAIN, tree)), (levels, levels))
            self.assertEqual((earliest(LEVELS, tree), fewest(LEVELS, tree)), (levels, (levels + 2) // 3))

    def test_the_lowest_depth_and_the_fewest_steps_may_be_of_different_ones(self):
        rules = Rules([mark("a"), mark("b")], [STEP, under(under(CALL, "f"), "f"), under(under(under(CALL, "f"), "f"))])
        tree = ((), (("e", under(mark("a"))), ("f", under(under(mark("b"), "f"), "f")),
                     ("e", under(under(mark("a"), "f"), "f"))))
        self.assertEqual(earliest(rules, tree), 2)
        self.assertEqual(fewest(rules, tree), 1)
        self.assertEqual(plain_least(rules, tree, 3), (2, 1))

    def test_against_a_plain_search(self):
        told = {True: 0, False: 0}
        for maker, rules in many_rules(range(240)):
            trees = [maker.tree() for _ in range(4)]
            trees += [tree for tree in [all_tree(rules, one) for one in unfoldings(rules, 1)] if level_in(tree) < 5]
            for tree in trees[:12]:
                wanted = plain_least(rules, tree, level_in(tree))
                self.assertEqual((earliest(rules, tree), fewest(rules, tree)), wanted)
                told[wanted[0] is None] += 1
        self.assertGreater(min(told.values()), 100)

    def test_trees_that_are_greater(self):
        many = tuple(sorted(one + other for one in "abcdefgh" for other in "abcdefgh"))
        self.assertEqual(earliest(CHAIN, (("a",) + many, ())), 0)
        self.assertEqual(earliest(CHAIN, (many, (("e", (("a",) + many, ())),))), 1)
        wide = ((), (("e", mark("b")),) * 5000 + (("f", mark("a")),) * 2000)
        self.assertEqual((earliest(CHAIN, wide), fewest(CHAIN, wide)), (None, None))
        wider = ((), wide[1] + (("e", mark("a")),))
        self.assertEqual((earliest(CHAIN, wider), fewest(CHAIN, wider)), (1, 1))
        self.assertEqual(earliest(WIDE, wide), 0)

    def test_trees_that_are_deeper_than_an_unfolding_that_may_be_passed(self):
        for levels in [130, 131, 148, 3000]:
            tree = chain(levels, bottom=mark("a"))
            self.assertEqual((earliest(CHAIN, tree), fewest(CHAIN, tree)), (levels, levels))
            self.assertEqual((earliest(LEVELS, tree), fewest(LEVELS, tree)), (levels, (levels + 2) // 3))
            self.assertIsNone(earliest(CHAIN, chain(levels)))

    def test_trees_that_were_told(self):
        source = random.Random(5)
        for rules in [CHAIN, LEVELS, MIXED, great_rules()]:
            for _ in range(6):
                row = [source.randrange(len(rules.steps)) for _ in range(source.randint(1, 43))]
                one = tuple(row) + (source.randrange(len(rules.ends)),)
                if is_unfolding(rules, one):
                    tree = tree_of(rules, one)
                    self.assertLessEqual(earliest(rules, tree), depth_of(rules, one))
                    self.assertLessEqual(fewest(rules, tree), len(one) - 1)
                    found = shorter(rules, one)
                    if found is None:
                        self.assertEqual(earliest(rules, tree), depth_of(rules, one))
                    else:
                        self.assertTrue(fits_root(tree, tree_of(rules, found)))
                        self.assertLess(depth_of(rules, found), depth_of(rules, one))
        tree = tree_of(MIXED, (2,) * 43 + (0, 0))
        self.assertEqual((earliest(MIXED, tree), fewest(MIXED, tree)), (130, 44))
        self.assertEqual(earliest(MIXED, ((), (("h", tree), ("e", tree)))), 131)


class ShorterTest(unittest.TestCase):

    def test_by_hand(self):
        for many in [0, 1, 2, 5, 130]:
            self.assertIsNone(shorter(CHAIN, (0,) * many + (0,)))
        self.assertIsNone(shorter(WIDE, (0,)))
        self.assertIsNone(shorter(WIDE, (1,)))
        self.assertEqual(shorter(WIDE, (0, 0)), (0,))
        self.assertEqual(shorter(WIDE, (0, 1)), (0,))
        self.assertEqual(shorter(WIDE, (0,) * 130 + (1,)), (0,))

    def test_one_of_the_same_depth_does_not_shorten(self):
        rules = Rules([mark("a"), mark("b")], [under((("b",), (), "call")), under(CALL)])
        self.assertIsNone(shorter(rules, (0, 0)))
        self.assertIsNone(shorter(rules, (1, 1)))
        self.assertTrue(fits_root(tree_of(rules, (0, 0)), tree_of(rules, (1, 0))))
        self.assertTrue(fits_root(tree_of(rules, (0, 0)), tree_of(rules, (1, 1))))

    def test_one_with_more_steps_may_shorten(self):
        rules = Rules([mark("a")], [STEP, ((), (("e", under(under(CALL))), ("e", under(mark("a")))))])
        self.assertEqual(shorter(rules, (1, 0)), (0, 0, 0))

    def test_against_a_plain_search(self):
        told = {True: 0, False: 0}
        for maker, rules in many_rules(range(300, 420)):
            for one in unfoldings(rules, 2):
                if depth_of(rules, one) > 4:
                    continue
                found = shorter(rules, one)
                self.assertEqual(found is None, plain_own(rules, one), (rules.ends, rules.steps, one))
                told[found is None] += 1
                if found is not None:
                    self.assertTrue(is_unfolding(rules, found))
                    self.assertLess(all_depth(rules, found), all_depth(rules, one))
                    self.assertTrue(plain_fits(of_tree(all_tree(rules, one)), 0, all_tree(rules, found)))
        self.assertGreater(min(told.values()), 100)

    def test_what_is_left_of_an_own_one_is_own(self):
        for maker, rules in many_rules(range(500, 560)):
            for one in unfoldings(rules, 4 if len(rules.steps) < 3 else 3):
                if len(one) > 1 and shorter(rules, one) is None:
                    self.assertIsNone(shorter(rules, one[1:]))


class CallsTest(unittest.TestCase):

    def test_nothing_hangs_on_what_was_asked_before(self):
        rules = great_rules()
        tree = tree_of(rules, (0, 1, 2, 0))
        before = copy.deepcopy((vars(rules), tree))

        def ask():
            return [is_unfolding(rules, (0, 1, 2, 0)), tree_of(rules, (0, 1, 2, 0)), depth_of(rules, (0, 1, 2, 0)),
                    earliest(rules, tree), fewest(rules, tree), shorter(rules, (0, 1, 2, 0)), shorter(rules, (1,))]

        first = ask()
        for other in [CHAIN, WIDE, MIXED]:
            shorter(other, (0, 0))
            earliest(other, tree)
            with self.assertRaises(BadUnfolding):
                tree_of(other, (0, 0, 7))
        self.assertEqual(ask(), first)
        self.assertEqual((vars(rules), tree), before)

    def test_lists_that_are_changed_later(self):
        ends, steps = [mark("a")], [STEP]
        rules = Rules(ends, steps)
        ends.append(LEAF)
        steps.clear()
        self.assertTrue(is_unfolding(rules, (0, 0)))
        self.assertFalse(is_unfolding(rules, (0, 1)))
        self.assertEqual(tree_of(rules, (0, 0)), under(mark("a")))

    def test_names_of_parameters(self):
        self.assertTrue(is_unfolding(thing=(0,), rules=CHAIN))
        self.assertEqual(tree_of(unfolding=(0,), rules=CHAIN), mark("a"))
        self.assertEqual(depth_of(unfolding=(0, 0), rules=CHAIN), 1)
        self.assertEqual(earliest(tree=mark("a"), rules=CHAIN), 0)
        self.assertEqual(fewest(tree=mark("a"), rules=CHAIN), 0)
        self.assertIsNone(shorter(unfolding=(0,), rules=CHAIN))

    def test_no_call_takes_long(self):
        rules = great_rules()
        source = random.Random(1)
        one = tuple(source.randrange(3) for _ in range(130)) + (1,)
        deep = LEAF
        for _ in range(140):
            deep = ((), (("e", ((), (("e", LEAF),) * 30)), ("e", deep)))
        start = time.perf_counter()
        tree = tree_of(rules, one)
        for call in [is_unfolding, depth_of, shorter]:
            call(rules, one)
        for great in [tree, deep, ((), (("e", LEAF),) * 7000)]:
            earliest(rules, great)
            fewest(rules, great)
        self.assertLess(time.perf_counter() - start, 10)


if __name__ == "__main__":
    unittest.main()
