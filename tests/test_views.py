"""Gaps and views: by hand, by the document's words, and what they tell of further steps."""

import copy
import random
import time
import unittest

from made import CHAIN, MIXED, STEP, WIDE, great_rules, many_rules, mark, under
from onlyjoins.errors import BadUnfolding
from onlyjoins.rules import Rules
from onlyjoins.unfold import depth_of, shorter
from onlyjoins.views import gaps, view
from plain import call_depth, level_in, plain_gaps, plain_view, unfoldings
from shapes import CALL, LEAF, chain, no_unfoldings, odd_values

# Ends whose nodes lie deeper than their own roots: gains above 0.
LONG_END = (("b",), (("e", chain(2, bottom=mark("a"))),))
GAINS = Rules([LONG_END, mark("a")], [STEP])


class GapsTest(unittest.TestCase):

    def test_no_gaps(self):
        self.assertEqual(gaps(Rules([LEAF])), ())
        self.assertEqual(gaps(Rules([mark("a"), mark("b"), LEAF])), ())

    def test_branches_within_branches(self):
        deep = under(under(mark("a"), "g"), "f")
        wanted = (("e", deep), ("f", under(mark("a"), "g")), ("g", mark("a")))
        self.assertEqual(gaps(Rules([under(deep)])), wanted)

    def test_a_branch_with_the_call_within_keeps_it(self):
        body = under(under(under(CALL, "g"), "f"))
        wanted = (("e", under(under(CALL, "g"), "f")), ("f", under(CALL, "g")), ("g", CALL))
        self.assertEqual(gaps(Rules([LEAF], [body])), wanted)

    def test_branches_of_the_call(self):
        call = (("a",), (("f", LEAF), ("e", mark("b"))), "call")
        self.assertEqual(gaps(Rules([LEAF], [under(call)])), (("e", call), ("e", mark("b")), ("f", LEAF)))

    def test_like_branches_are_told_once(self):
        rules = Rules([under(LEAF), ((), (("e", LEAF),) * 3)], [STEP, STEP, ((), (("e", LEAF), ("e", CALL)))])
        self.assertEqual(gaps(rules), (("e", LEAF), ("e", CALL)))

    def test_a_branch_with_a_call_is_another_one(self):
        rules = Rules([under(under(LEAF))], [under(under(CALL))])
        self.assertEqual(gaps(rules), (("e", LEAF), ("e", CALL), ("e", under(LEAF)), ("e", under(CALL))))

    def test_their_order(self):
        rules = Rules([((), (("f", LEAF), ("e", mark("b")), ("e", mark("a", "b"))))],
                      [((), (("ee", LEAF), ("e", (("a",), (), "call"))))])
        wanted = (("e", (("a",), (), "call")), ("e", mark("a", "b")), ("e", mark("b")), ("ee", LEAF), ("f", LEAF))
        self.assertEqual(gaps(rules), wanted)

    def test_for_many_rules(self):
        for maker, rules in many_rules(range(300)):
            found = gaps(rules)
            self.assertIsInstance(found, tuple)
            self.assertEqual(found, plain_gaps(rules))
            self.assertTrue(all(one < other for one, other in zip(found, found[1:])))


class ViewTest(unittest.TestCase):

    def test_an_end_alone(self):
        self.assertEqual(view(Rules([LEAF]), (0,)), (0, (), ()))
        self.assertEqual(view(Rules([mark("a"), mark("b")]), (1,)), (0, ("b",), ()))
        self.assertEqual(view(CHAIN, (0,)), (0, ("a",), (None,)))

    def test_gains_without_a_call(self):
        rules = Rules([((), (("e", mark("a")), ("f", under(mark("b"))))), under(mark("b"))])
        self.assertEqual(gaps(rules), (("e", mark("a")), ("e", mark("b")), ("f", under(mark("b")))))
        self.assertEqual(view(rules, (0,)), (0, (), (True, False, True)))
        self.assertEqual(view(rules, (1,)), (0, (), (False, True, False)))

    def test_one_node_must_have_all_that_a_gap_wants(self):
        rules = Rules([((), (("e", mark("a", "b")),)), ((), (("e", mark("a")), ("e", mark("b"))))])
        self.assertEqual(view(rules, (0,)), (0, (), (True, True, True)))
        self.assertEqual(view(rules, (1,)), (0, (), (True, False, True)))

    def test_gains_are_none_without_a_chosen_call(self):
        rules = Rules([under(LEAF), mark("a")], [under((("c",), (), "call"))])
        self.assertEqual(gaps(rules), (("e", LEAF), ("e", (("c",), (), "call"))))
        self.assertEqual(view(rules, (0,)), (0, (), (True, None)))
        self.assertEqual(view(rules, (1,)), (0, ("a",), (False, None)))
        self.assertEqual(view(rules, (0, 1)), (1, (), (True, 0)))

    def test_gains_of_nought(self):
        self.assertEqual(view(CHAIN, (0, 0)), (1, (), (0,)))
        self.assertEqual(view(CHAIN, (0, 0, 0)), (1, (), (0,)))
        self.assertEqual(view(CHAIN, (0,) * 131), (1, (), (0,)))

    def test_gains_below_nought_are_minus_one(self):
        self.assertEqual(gaps(WIDE), (("e", LEAF), ("e", CALL)))
        self.assertEqual(view(WIDE, (0,)), (0, (), (True, None)))
        self.assertEqual(view(WIDE, (0, 1)), (1, (), (True, 0)))
        self.assertEqual(view(WIDE, (0, 0)), (1, (), (True, 0)))
        self.assertEqual(view(WIDE, (0, 0, 1)), (1, (), (True, -1)))
        self.assertEqual(view(WIDE, (0, 0, 0, 0, 0, 1)), (1, (), (True, -1)))

    def test_gains_above_nought(self):
        self.assertEqual(gaps(GAINS)[0], ("e", CALL))
        self.assertEqual(view(GAINS, (0,)), (0, ("b",), (3, True, False, False)))
        self.assertEqual(view(GAINS, (1,)), (0, ("a",), (None, False, False, False)))
        self.assertEqual(view(GAINS, (0, 0)), (1, (), (0, False, False, False)))
        self.assertEqual(view(GAINS, (0, 1)), (1, (), (0, False, False, True)))
        shorter_end = Rules([(("b",), (("e", under(mark("a"))),)), mark("a")], [STEP])
        self.assertEqual(view(shorter_end, (0,)), (0, ("b",), (2, True, False)))
        shortest_end = Rules([(("b",), (("e", mark("a")),)), mark("a")], [STEP])
        self.assertEqual(view(shortest_end, (0,)), (0, ("b",), (1, True)))

    def test_a_gap_with_the_call_further_below(self):
        rules = Rules([mark("a")], [under(under(CALL, "f")), under(CALL, "f")])
        self.assertEqual(gaps(rules), (("e", under(CALL, "f")), ("f", CALL)))
        self.assertEqual(view(rules, (0, 0)), (2, (), (0, None)))
        self.assertEqual(view(rules, (1, 0)), (1, (), (None, 0)))
        self.assertEqual(view(rules, (1, 0, 0)), (2, (), (None, 0)))

    def test_what_stands_with_the_call_in_a_gap_is_wanted_too(self):
        call = (("c",), (("g", LEAF),), "call")
        rules = Rules([mark("a"), (("c",), (("g", LEAF),))], [under(call), STEP])
        number = gaps(rules).index(("e", call))
        self.assertIs(view(rules, (1, 0))[2][number], None)
        self.assertEqual(view(rules, (1, 1))[2][number], 0)
        self.assertEqual(view(rules, (0, 0))[2][number], 0)

    def test_marks_are_of_the_root_alone(self):
        self.assertEqual(view(MIXED, (1, 0))[1], ("c",))
        self.assertEqual(view(MIXED, (2, 1, 0))[1], ())
        self.assertEqual(view(MIXED, (0,))[1], ("a",))

    def test_the_depth_up_to_the_height(self):
        rules = Rules([mark("a"), under(LEAF)], [STEP, under(under(CALL))])
        for one in unfoldings(rules, 4):
            self.assertEqual(view(rules, one)[0], min(2, depth_of(rules, one)))

    def test_the_words_of_branches_count(self):
        rules = Rules([under(mark("a")), mark("a")], [under(CALL, "f")])
        self.assertEqual(gaps(rules), (("e", mark("a")), ("f", CALL)))
        self.assertEqual(view(rules, (0,)), (0, (), (True, None)))
        self.assertEqual(view(rules, (0, 1)), (1, (), (False, 0)))

    def test_as_the_document_says_for_many(self):
        told = {}
        for maker, rules in many_rules(range(150)):
            height = max(level_in(tree) for tree in rules.ends + rules.steps)
            found = gaps(rules)
            for one in maker.source.sample(unfoldings(rules, 2), min(6, len(unfoldings(rules, 2)))):
                if depth_of(rules, one) > 4:
                    continue
                seen = view(rules, one)
                self.assertEqual(seen, plain_view(rules, one), (rules.ends, rules.steps, one))
                self.assertEqual(len(seen[2]), len(found))
                for gap, gain in zip(found, seen[2]):
                    told[repr(gain)] = told.get(repr(gain), 0) + 1
                    if call_depth(gap[1]) is None:
                        self.assertIn(repr(gain), ["True", "False"])
                    else:
                        self.assertIn(repr(gain), ["None", "-1"] + [str(least) for least in range(height + 1)])
        self.assertLessEqual({"-1", "0", "1", "2", "False", "None", "True"}, set(told))

    def test_a_view_tells_what_is_ahead(self):
        like = 0
        for maker, rules in many_rules(range(700, 760), nodes=4):
            row = [(end,) for end in range(len(rules.ends))]
            told = {}
            for _ in range(5):
                longer = []
                for one in row[:30]:
                    ahead = [(step,) + one for step in range(len(rules.steps))]
                    own = [shorter(rules, other) is None for other in ahead]
                    longer += [other for other, fine in zip(ahead, own) if fine]
                    answer = [view(rules, other) for other in ahead], own
                    like += view(rules, one) in told
                    self.assertEqual(told.setdefault(view(rules, one), answer), answer)
                row = longer
        self.assertGreater(like, 100)


class CallsTest(unittest.TestCase):

    def test_what_is_no_unfolding_is_refused(self):
        for rules in [Rules([LEAF]), CHAIN, MIXED]:
            for thing in no_unfoldings() + odd_values() + [(5,), (0, 5), (5, 0), (0,) * 200]:
                with self.assertRaises(BadUnfolding) as caught:
                    view(rules, thing)
                self.assertIs(caught.exception.value, thing)

    def test_nothing_hangs_on_what_was_asked_before(self):
        rules = great_rules()
        before = copy.deepcopy(vars(rules))
        first = gaps(rules), [view(rules, one) for one in unfoldings(rules, 2)]
        for other in [CHAIN, WIDE, GAINS]:
            view(other, (0, 0))
            with self.assertRaises(BadUnfolding):
                view(other, ())
        self.assertEqual((gaps(rules), [view(rules, one) for one in unfoldings(rules, 2)]), first)
        self.assertEqual(vars(rules), before)

    def test_names_of_parameters(self):
        self.assertEqual(gaps(rules=CHAIN), (("e", CALL),))
        self.assertEqual(view(unfolding=(0, 0), rules=CHAIN), (1, (), (0,)))

    def test_no_call_takes_long(self):
        rules = great_rules()
        source = random.Random(2)
        start = time.perf_counter()
        for _ in range(5):
            view(rules, tuple(source.randrange(3) for _ in range(131)))
            gaps(rules)
        self.assertLess(time.perf_counter() - start, 10)


if __name__ == "__main__":
    unittest.main()
