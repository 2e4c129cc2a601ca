"""Comparisons: rules held against other ones and against themselves with less, and the joins that are left."""

import copy
import itertools
import time
import unittest
from unittest import mock

from made import CHAIN, MIXED, STEP, WIDE, Maker, great_rules, many_rules, mark, under
from onlyjoins import answers, compare
from onlyjoins.answers import check, own_unfoldings
from onlyjoins.compare import alike, contained, joins, needless, parting
from onlyjoins.errors import Needed, TooMany
from onlyjoins.rules import Rules
from onlyjoins.stores import chosen, fits, store_of
from onlyjoins.texts import read_rules
from onlyjoins.trees import is_tree
from onlyjoins.unfold import tree_of
from plain import all_tree, of_tree, parts, plain_fits, plain_parting, plain_view_by, unfoldings
from shapes import CALL, LEAF, chain

TWICE = under(under(CALL))
# The mark a by edges, two at a time.
PAIRS = Rules([mark("a")], [TWICE])
# The mark a by edges, with the mark b at each node ahead of it.
WAY = Rules([mark("a")], [under(CALL, "e", ("b",))])
# Beside each edge on the way another one leads to the mark b.
BESIDE = Rules([mark("a")], [((), (("e", CALL), ("f", mark("b"))))])
LETTERS = [under(CALL, "e", (word,)) for word in "abc"]
# Of these, unfoldings by LETTERS have 300 views after the end a, and 301 after one without marks.
DEEP = Rules([chain(3, bottom=mark("a")), mark("d")],
             [under(TWICE, "e", ("a",)), under(under((("c",), (), "call")))])
WITH_300 = Rules([mark("a")], LETTERS)
WITH_301 = Rules([LEAF], LETTERS)
# Of the first of these, unfoldings of 40 steps still have a new view; of the second one those of 41 steps, too.
MARKING = [under((("b",), (), "call"), "e", ("b",)), under((("a", "c"), (), "call"), "e", ("c",)),
           under((("c",), (), "call"), "e", ("a", "c"))]
UP_TO_40 = Rules([mark("a")], MARKING)
UP_TO_41 = Rules([LEAF], MARKING)
SLOW = read_rules("""end a(e>a(e>a+b(e>a)))
step -(e>-(e>a+b(e>!a)))
step -(e>a(e>b(e>!a)))
step a(e>b(e>c(e>!b)))""")
THREE_EDGES = Rules([chain(2), mark("a")], [STEP, STEP])
LEAPS = Rules([chain(3), mark("a")], [STEP, TWICE])


def pairs_of_rules(numbers, nodes=4):
    """Pairs of rules: some unlike, some with one thing less, more, otherwise or in another order."""
    for number, (maker, rules) in zip(numbers, many_rules(numbers, nodes=nodes)):
        others = [rules, maker.rules()]
        if len(rules.ends) > 1:
            others += [rules.without_end(0), Rules(rules.ends[::-1], rules.steps)]
        if len(rules.ends) < 3:
            others.append(rules.with_end(maker.tree()))
        if len(rules.steps) > 0:
            others += [rules.without_step(0), Rules(rules.ends, rules.steps[:-1] + (maker.body(),))]
        if len(rules.steps) < 3:
            others.append(rules.with_step(maker.body()))
        for other in others:
            yield maker, rules, other


def nearly_contained(numbers):
    """Pairs of rules, the second one with unfoldings of the first one in place of a step."""
    for number in numbers:
        maker = Maker(number, *[("ab", "e"), ("a", "ef"), ("ab", "ef"), ("", "ef")][number % 4], nodes=3)
        one = Rules([maker.tree()], [maker.body() for _ in range(3)])
        ends = list(one.ends)
        while len(ends) < 3:
            tree = tree_of(one, maker.source.choice(unfoldings(one, 2)[1:]))
            if is_tree(tree):
                ends.append(tree)
        steps = list(one.steps)
        steps.pop(maker.source.randrange(3))
        yield one, Rules(ends, steps + [maker.body()])


def told(function, *rules):
    try:
        return function(*rules)
    except TooMany as error:
        return "too many", error.most


def plain_too_many(one, other, views, steps):
    """Whether there are too many views, by the words: all unfoldings are gone through."""
    rows = [{plain_view_by(other, all_tree(one, row)) for row in unfoldings(one, steps + 1) if len(row) - 1 in many}
            for many in [range(steps + 1), [steps + 1]]]
    return len(rows[0]) > views or not rows[1] <= rows[0]


def plain_new_views(one, other):
    """How many views come first at each number of steps, as long as there are any."""
    seen, told = {}, []
    row = [(end,) for end in range(len(one.ends))]
    while True:
        fresh = {}
        for unfolding in row:
            view = plain_view_by(other, all_tree(one, unfolding))
            if view not in seen:
                fresh.setdefault(view, unfolding)
        if not fresh:
            return told
        seen.update(fresh)
        told.append(len(fresh))
        row = [(step,) + unfolding for step in range(len(one.steps)) for unfolding in fresh.values()]


def plain_joins(rules):
    """The joins by the words: from the last one back to the first one."""
    left = list(own_unfoldings(rules))
    for one in left[::-1]:
        held = of_tree(all_tree(rules, one))
        if any(plain_fits(held, 0, all_tree(rules, other)) for other in left if other != one):
            left.remove(one)
    return tuple(left)


class CompareCase(unittest.TestCase):

    def assert_contained(self, one, other):
        self.assertIs(contained(one, other), True)
        self.assertIsNone(parting(one, other))

    def assert_parted(self, one, other, unfolding):
        self.assertIs(contained(one, other), False)
        self.assertEqual(parting(one, other), unfolding)
        store = store_of(tree_of(one, unfolding))
        self.assertIn("a", chosen(one, store))
        self.assertNotIn("a", chosen(other, store))

    def assert_alike(self, one, other, wanted=True):
        self.assertIs(alike(one, other), wanted)
        self.assertIs(alike(other, one), wanted)

    def assert_too_many(self, function, *rules):
        with self.assertRaises(TooMany) as caught:
            function(*rules)
        self.assertEqual(caught.exception.most, 300)


class ContainedTest(CompareCase):

    def test_the_example_of_the_document(self):
        self.assertEqual((contained(CHAIN, WIDE), parting(WIDE, CHAIN)), (True, (0,)))

    def test_itself(self):
        for rules in [CHAIN, WIDE, PAIRS, WAY, BESIDE, MIXED, great_rules(), Rules([LEAF])]:
            self.assert_contained(rules, rules)
            self.assert_alike(rules, Rules(list(rules.ends), list(rules.steps)))

    def test_without_steps(self):
        self.assert_contained(Rules([mark("a", "b")]), Rules([mark("a")]))
        self.assert_parted(Rules([mark("a")]), Rules([mark("a", "b")]), (0,))
        self.assert_contained(Rules([mark("a")]), Rules([mark("b"), mark("a")]))
        self.assert_parted(Rules([mark("b"), mark("a")]), Rules([mark("b")]), (1,))
        self.assert_contained(Rules([chain(3)]), Rules([chain(2)]))
        self.assert_parted(Rules([chain(2)]), Rules([chain(3)]), (0,))
        self.assert_contained(Rules([mark("z")]), Rules([LEAF], [STEP]))

    def test_ends_and_steps_in_another_order_or_twice(self):
        turned = Rules(MIXED.ends[::-1], MIXED.steps[::-1])
        self.assert_alike(MIXED, turned)
        self.assert_alike(CHAIN, Rules([mark("a")] * 3, [STEP] * 3))

    def test_an_end_otherwise_more_or_fewer(self):
        self.assert_parted(Rules([mark("b")], [STEP]), CHAIN, (0,))
        self.assert_contained(CHAIN, CHAIN.with_end(mark("b")))
        self.assert_parted(CHAIN.with_end(mark("b")), CHAIN, (1,))
        self.assert_contained(Rules([mark("a", "b")], [STEP]), CHAIN)
        self.assert_parted(CHAIN, Rules([mark("a", "b")], [STEP]), (0,))
        # An end that is an unfolding with steps gives nothing more.
        self.assert_alike(CHAIN, CHAIN.with_end(chain(3, bottom=mark("a"))))

    def test_a_step_otherwise_more_or_fewer(self):
        self.assert_contained(Rules([mark("a")]), CHAIN)
        self.assert_parted(CHAIN, Rules([mark("a")]), (0, 0))
        self.assert_parted(CHAIN.with_step(under(CALL, "f")), CHAIN, (1, 0))
        self.assert_parted(Rules([mark("a")], [under(CALL, "f")]), CHAIN, (0, 0))
        self.assert_alike(CHAIN, CHAIN.with_step(TWICE).with_step(under(TWICE)))
        self.assert_contained(CHAIN.with_step(TWICE), CHAIN)

    def test_two_edges_at_a_time(self):
        self.assert_contained(PAIRS, CHAIN)
        self.assert_parted(CHAIN, PAIRS, (0, 0))
        thrice = Rules([mark("a")], [under(TWICE)])
        self.assert_parted(PAIRS, thrice, (0, 0))
        self.assert_parted(thrice, PAIRS, (0, 0))
        # Two and three edges at a time leave out one edge alone.
        both = Rules([mark("a")], [TWICE, under(TWICE)])
        self.assert_parted(CHAIN, both, (0, 0))
        self.assert_alike(CHAIN, both.with_end(under(mark("a"))))
        self.assert_alike(CHAIN, PAIRS.with_end(under(mark("a"))))
        self.assert_parted(CHAIN, thrice.with_end(under(mark("a"))), (0, 0, 0))
        self.assert_alike(CHAIN, thrice.with_end(under(mark("a"))).with_end(under(under(mark("a")))))

    def test_a_mark_on_the_way(self):
        self.assert_contained(WAY, CHAIN)
        self.assert_parted(CHAIN, WAY, (0, 0))
        late = Rules([mark("a")], [under((("b",), (), "call"))])
        self.assert_parted(WAY, late, (0, 0))
        self.assert_parted(late, WAY, (0, 0))
        self.assert_alike(WAY, Rules([mark("a"), under(mark("a"), "e", ("b",))], WAY.steps))
        marked = Rules([mark("a"), under(mark("a"), "e", ("b",))], [under((("b",), (), "call"), "e", ("b",))])
        self.assert_alike(WAY, marked)

    def test_branches_beside_the_call(self):
        self.assert_contained(BESIDE, CHAIN)
        self.assert_parted(CHAIN, BESIDE, (0, 0))
        twice = Rules([mark("a")], [((), (("f", LEAF), ("e", CALL), ("f", mark("b"))))])
        self.assert_alike(BESIDE, twice)
        below = Rules([mark("a")], [under(((), (("f", mark("b")),), "call"))])
        self.assert_parted(BESIDE, below, (0, 0))
        self.assert_parted(below, BESIDE, (0, 0))
        # A branch beside the call leads to a node that is chosen itself.
        beside = Rules([mark("a")], [((), (("e", CALL), ("f", mark("a"))))])
        forward = Rules([mark("a")], [((), (("e", mark("a")), ("f", CALL)))])
        self.assert_parted(beside, forward, (0, 0, 0))
        self.assert_parted(forward, beside, (0, 0, 0))

    def test_an_end_in_a_branch_beside_the_call(self):
        # The whole tree counts: what the one puts beside its call may be chosen by the other.
        one = Rules([mark("a")], [((), (("e", CALL), ("f", mark("c"))))])
        other = Rules([mark("a"), mark("c")], [under(CALL, "f")])
        self.assert_contained(one, other)
        self.assert_parted(other, one, (1,))

    def test_an_edge_that_is_always_enough(self):
        self.assert_contained(CHAIN, WIDE)
        self.assert_contained(PAIRS, WIDE)
        self.assert_alike(WIDE, Rules(WIDE.ends))
        self.assert_alike(WIDE, Rules(WIDE.ends, [TWICE]))

    def test_alike_both_ways(self):
        for one, other in itertools.product([CHAIN, WIDE, PAIRS, WAY, BESIDE, MIXED, LEAPS], repeat=2):
            wanted = contained(one, other) and contained(other, one)
            self.assert_alike(one, other, wanted)
            self.assertIs(wanted, one == other)

    def test_against_a_plain_search(self):
        kinds = {}
        for maker, one, other in pairs_of_rules(range(220)):
            found = told(parting, one, other)
            if found == ("too many", 300):
                continue
            most = 3 if len(one.steps) < 3 else 2
            wanted = plain_parting(one, other, most)
            if found is None or len(found) - 1 > most:
                self.assertIsNone(wanted)
            else:
                self.assertEqual(found, wanted)
            if found is not None:
                self.assertTrue(parts(one, other, found))
            self.assertIs(contained(one, other), found is None)
            self.assertIs(told(alike, one, other), found is None and told(parting, other, one) is None)
            kind = "contained" if found is None else len(found) - 1
            kinds[kind] = kinds.get(kind, 0) + 1
        self.assertGreater(min(kinds["contained"], kinds[0], kinds[1]), 100)

    def test_on_stores_that_are_made(self):
        held = 0
        for maker, one, other in pairs_of_rules(range(120)):
            if told(contained, one, other) is True:
                for _ in range(4):
                    store = maker.store()
                    nodes = chosen(one, store)
                    held += len(nodes)
                    self.assertLessEqual(set(nodes), set(chosen(other, store)))
        self.assertGreater(held, 1000)


class PartingTest(CompareCase):

    def test_fewer_steps_come_first(self):
        other = Rules([mark("a"), under(mark("a"))], [under(under(CALL, "f"), "e")])
        self.assert_parted(CHAIN, other, (0, 0, 0))
        rules = Rules([mark("a"), mark("b")], [STEP, under(CALL, "f")])
        self.assert_parted(rules, Rules([mark("a")], rules.steps), (1,))
        self.assert_parted(rules, rules.without_step(0), (0, 0))
        self.assert_parted(rules, Rules([mark("a"), mark("b"), under(mark("a"))], rules.steps[1:]), (0, 1))

    def test_of_as_many_steps_the_first_in_the_order_of_tuples(self):
        rules = Rules([mark("a"), mark("b"), mark("c")], [under(CALL, "f"), STEP, under(CALL, "g")])
        ends = rules.ends
        self.assert_parted(rules, Rules(ends), (0, 0))
        self.assert_parted(rules, Rules(ends, rules.steps[:1]), (1, 0))
        self.assert_parted(rules, Rules(ends, rules.steps[:2]), (2, 0))
        self.assert_parted(rules, Rules(ends, rules.steps[1:]), (0, 0))
        # The first step with the second end, ahead of the second step with the first end.
        other = Rules([mark("a"), under(mark("b")), under(mark("a"), "f")])
        self.assert_parted(Rules([mark("a")], rules.steps), other, (1, 0))
        other = Rules([mark("a"), mark("b"), under(mark("a"), "f")])
        self.assert_parted(Rules(ends[:2], rules.steps), other, (0, 1))

    def test_a_row_of_two_steps_that_is_left_out(self):
        steps = [under(CALL, word) for word in "efg"]
        one = Rules([mark("a")], steps)
        for first, second in itertools.product(range(3), repeat=2):
            # Without the first step, but with ends for it above the end and above one of the other two rows.
            rest = [step for number, step in enumerate(steps) if number != first]
            above = under(mark("a"), "efg"[first])
            ends = [mark("a"), above, under(under(mark("a"), "efg"[second]), "efg"[first])]
            wanted = min((first, step, 0) for step in range(3) if step != second)
            self.assert_parted(one, Rules(ends, rest), wanted)
            self.assert_parted(one, Rules(ends[:2], rest), (first, 0, 0))
            self.assert_parted(one, Rules(ends[:1], rest), (first, 0))

    def test_many_steps(self):
        for many in range(1, 4):
            rows = [chain(number, bottom=mark("a")) for number in range(many)]
            self.assert_parted(CHAIN, Rules(rows), (0,) * (many + 1))
        # Just one row of edges is not chosen: f above e, above a, which is chosen only at two edges or more.
        one = Rules([mark("a")], [STEP, under(CALL, "f")])
        other = Rules([mark("a"), under(mark("a"), "f")], [STEP, under(under(CALL, "f"), "f"), under(TWICE, "f")])
        self.assertEqual(parting(one, other), plain_parting(one, other, 4))
        self.assert_parted(one, other, (1, 0, 0))

    def test_in_the_order_that_is_asked_for_many(self):
        kinds = {}
        for one, other in nearly_contained(range(400)):
            found = told(parting, one, other)
            wanted = plain_parting(one, other, 3)
            self.assertEqual(found if found is not None and len(found) < 5 else None, wanted)
            many = 0 if found is None else len(found)
            kinds[many] = kinds.get(many, 0) + 1
        self.assertGreater(min(kinds[0], kinds[2], kinds[3]), 20)
        self.assertIn(4, kinds)


class TooManyTest(CompareCase):

    def test_300_views_and_301(self):
        for rules, many in [(WITH_300, 300), (WITH_301, 301)]:
            rows = unfoldings(rules, 7)
            self.assertEqual(len({plain_view_by(DEEP, all_tree(rules, row)) for row in rows}), many)
        # What it holds is contained nowhere: the first end already parts.
        self.assertEqual(parting(WITH_300, DEEP), (0,))
        self.assertIs(contained(WITH_300, DEEP), False)
        self.assertIs(alike(WITH_300, DEEP), False)
        self.assert_too_many(parting, WITH_301, DEEP)
        self.assert_too_many(contained, WITH_301, DEEP)

    def test_40_steps_and_41(self):
        for rules, steps in [(UP_TO_40, 40), (UP_TO_41, 41)]:
            views = plain_new_views(rules, SLOW)
            self.assertEqual(len(views) - 1, steps)
            self.assertLess(sum(views), 100)
        self.assertEqual(parting(UP_TO_40, SLOW), (0,))
        self.assertIs(contained(UP_TO_40, SLOW), False)
        self.assertIs(alike(SLOW, UP_TO_40), False)
        self.assert_too_many(parting, UP_TO_41, SLOW)
        self.assert_too_many(contained, UP_TO_41, SLOW)
        self.assert_too_many(alike, UP_TO_41, SLOW)
        self.assert_too_many(alike, SLOW, UP_TO_41)
        self.assertIs(contained(SLOW, UP_TO_41), True)

    def test_alike_counts_both_ways(self):
        self.assertEqual(parting(DEEP, WITH_301), None)
        self.assertIs(contained(DEEP, Rules([mark("z")], LETTERS)), False)
        for other in [WITH_301, Rules([mark("z")], LETTERS)]:
            self.assert_too_many(alike, DEEP, other)
            self.assert_too_many(alike, other, DEEP)

    def test_views_of_the_one_by_the_other(self):
        # The other way there are few, although both are great.
        self.assertIs(contained(DEEP, WITH_301), True)
        self.assertIs(contained(WITH_301, WITH_301), True)
        self.assertIs(contained(DEEP, DEEP), True)

    def test_with_other_bounds_as_the_document_says(self):
        kinds = {}
        for views, steps in [(2, 40), (4, 40), (8, 40), (300, 0), (300, 1), (300, 2), (5, 2)]:
            with mock.patch.multiple(compare, MOST_VIEWS=views, MOST_STEPS=steps):
                for maker, one, other in pairs_of_rules(range(40), nodes=3):
                    most = min(steps, 3 if len(one.steps) < 3 else 2)
                    if steps > most:
                        # Views that do not end within few steps are left to the other bounds.
                        if plain_too_many(one, other, 1000, most):
                            continue
                    wanted = plain_too_many(one, other, views, most)
                    found = told(parting, one, other)
                    self.assertEqual(found == ("too many", views), wanted)
                    self.assertEqual(told(contained, one, other), found if wanted else found is None)
                    kinds[steps, wanted] = kinds.get((steps, wanted), 0) + 1
        for steps in [0, 1, 2, 40]:
            self.assertGreater(min(kinds[steps, True], kinds[steps, False]), 5, steps)

    def test_alike_and_needless_with_other_bounds(self):
        kinds = set()
        for views in [3, 5, 9, 20]:
            with mock.patch.object(compare, "MOST_VIEWS", views):
                for maker, rules in many_rules(range(60), nodes=4):
                    less = [rules.without_end(number) for number in range(len(rules.ends)) if len(rules.ends) > 1]
                    less += [rules.without_step(number) for number in range(len(rules.steps))]
                    ways = [[told(contained, rules, other), told(contained, other, rules)] for other in less]
                    for other, way in zip(less, ways):
                        wanted = ("too many", views) if ("too many", views) in way else way == [True, True]
                        self.assertEqual(told(alike, rules, other), wanted)
                        self.assertEqual(told(alike, other, rules), wanted)
                        kinds.add(tuple(isinstance(one, bool) for one in way))
                    wanted = any(("too many", views) in way for way in ways)
                    self.assertEqual(told(needless, rules) == ("too many", views), wanted)
        self.assertEqual(len(kinds), 4)


class NeedlessTest(CompareCase):

    def test_by_hand(self):
        self.assertEqual(needless(Rules([LEAF])), ((), ()))
        self.assertEqual(needless(CHAIN), ((), ()))
        self.assertEqual(needless(WIDE), ((), (0,)))
        self.assertEqual(needless(Rules([mark("a"), mark("b")])), ((), ()))
        self.assertEqual(needless(Rules([mark("a"), mark("a", "b")])), ((1,), ()))
        self.assertEqual(needless(Rules([LEAF, mark("a"), mark("b")], [STEP, TWICE])), ((1, 2), (0, 1)))
        self.assertEqual(needless(Rules([mark("a")], [STEP, TWICE, under(TWICE)])), ((), (1, 2)))
        self.assertEqual(needless(Rules([mark("a"), chain(3, bottom=mark("a"))], [TWICE, STEP])), ((1,), (0,)))

    def test_each_by_itself(self):
        # Either of two that are alike may be left out, but not both.
        self.assertEqual(needless(Rules([mark("a"), mark("b"), mark("a")])), ((0, 2), ()))
        self.assertEqual(needless(Rules([mark("a")], [STEP, STEP])), ((), (0, 1)))
        self.assertEqual(needless(Rules([mark("a")] * 3, [STEP] * 3)), ((0, 1, 2), (0, 1, 2)))

    def test_one_end_alone(self):
        # The only end is never told, even if a step chooses nothing with it.
        self.assertEqual(needless(Rules([LEAF], [STEP])), ((), (0,)))
        self.assertEqual(needless(Rules([mark("a")], [under(CALL, "e", ("a",))])), ((), (0,)))

    def test_by_the_rules_without_each_one(self):
        kinds = {"end": 0, "step": 0}
        for maker, rules in many_rules(range(300)):
            ends, steps = needless(rules)
            for number in range(len(rules.ends) if len(rules.ends) > 1 else 0):
                less = rules.without_end(number)
                self.assertIs(alike(rules, less), number in ends)
                kinds["end"] += number in ends
                if number in ends:
                    self.assertIsNone(plain_parting(rules, less, 1))
            for number in range(len(rules.steps)):
                less = rules.without_step(number)
                self.assertIs(alike(less, rules), number in steps)
                kinds["step"] += number in steps
                if number in steps:
                    self.assertIsNone(plain_parting(rules, less, 1))
            self.assertEqual((ends, steps), (tuple(sorted(ends)), tuple(sorted(steps))))
            self.assertLess(max(ends, default=0), len(rules.ends))
            self.assertTrue(len(rules.ends) > 1 or ends == ())
        self.assertGreater(min(kinds.values()), 50)


class JoinsTest(CompareCase):

    def test_by_hand(self):
        self.assertEqual(joins(Rules([LEAF])), ((0,),))
        self.assertEqual(joins(WIDE), ((0,), (1,)))
        self.assertEqual(joins(Rules([mark("a"), mark("a", "b")])), ((0,),))
        self.assertEqual(joins(Rules([mark("a", "b"), mark("a")])), ((1,),))
        self.assertEqual(joins(Rules([LEAF], [STEP])), ((0,),))

    def test_of_those_that_fit_each_other_the_first_is_left(self):
        self.assertEqual(joins(Rules([mark("a")] * 3)), ((0,),))
        self.assertEqual(joins(Rules([mark("b"), mark("a"), mark("b")])), ((0,), (1,)))
        same = ((), (("e", LEAF), ("e", LEAF)))
        self.assertEqual(joins(Rules([same, under(LEAF)])), ((0,),))
        self.assertEqual(joins(Rules([under(LEAF), same])), ((0,),))
        self.assertEqual(own_unfoldings(THREE_EDGES), ((0,), (0, 1), (1,), (1, 1)))
        self.assertEqual(joins(THREE_EDGES), ((0,), (0, 1), (1,)))

    def test_more_own_ones_than_joins(self):
        self.assertEqual(own_unfoldings(LEAPS), ((0,), (0, 0, 1), (0, 1), (1,), (1, 1)))
        self.assertEqual(joins(LEAPS), ((0,), (0, 0, 1), (0, 1), (1,)))

    def test_against_a_plain_leaving_out(self):
        fewer = 0
        for maker, rules in many_rules(range(500)):
            try:
                own = own_unfoldings(rules)
            except Needed:
                with self.assertRaises(Needed) as caught:
                    joins(rules)
                self.assertEqual(check(rules, caught.exception.paper), "needed")
                continue
            except TooMany:
                with self.assertRaises(TooMany):
                    joins(rules)
                continue
            found = joins(rules)
            self.assertEqual(found, plain_joins(rules))
            fewer += len(found) < len(own)
        self.assertGreater(fewer, 30)

    def test_joins_choose_the_same_nodes(self):
        for maker, rules in many_rules(range(600, 700)):
            try:
                found = joins(rules)
            except (Needed, TooMany):
                continue
            store = maker.store()
            nodes = [node for node in store.nodes if any(fits(store, node, tree_of(rules, one)) for one in found)]
            self.assertEqual(tuple(nodes), chosen(rules, store))

    def test_needed_with_a_paper_that_holds(self):
        for rules in [CHAIN, PAIRS, WAY, BESIDE, MIXED]:
            with self.assertRaises(Needed) as caught:
                joins(rules)
            self.assertEqual(check(rules, caught.exception.paper), "needed")

    def test_too_many_comes_ahead_of_needed(self):
        words = [under(CALL, word) for word in "efg"]
        rules = Rules([mark("x"), mark("y"), chain(3, "h", bottom=mark("z"))], words)
        with self.assertRaises(TooMany) as caught:
            joins(rules)
        self.assertEqual(caught.exception.most, 100)
        with mock.patch.object(answers, "MOST_OWN", 1000):
            with self.assertRaises(Needed):
                joins(rules)


class CallsTest(CompareCase):

    def test_nothing_hangs_on_what_was_asked_before(self):
        every = [CHAIN, WIDE, PAIRS, WAY, BESIDE, MIXED, LEAPS, DEEP, WITH_301]
        before = [copy.deepcopy(vars(rules)) for rules in every]
        asked = [(function, pair) for pair in itertools.product(every, repeat=2)
                 for function in [contained, parting, alike]]
        asked += [(function, (rules,)) for rules in every for function in [needless, plain_kind]]
        first = [told(function, *rules) for function, rules in asked]
        again = [told(function, *rules) for function, rules in asked[::-1]]
        self.assertEqual(again[::-1], first)
        self.assertEqual([vars(rules) for rules in every], before)

    def test_names_of_parameters(self):
        self.assertIs(contained(other=WIDE, one=CHAIN), True)
        self.assertEqual(parting(other=CHAIN, one=WIDE), (0,))
        self.assertIs(alike(other=CHAIN, one=WIDE), False)
        self.assertEqual(needless(rules=WIDE), ((), (0,)))
        self.assertEqual(joins(rules=WIDE), ((0,), (1,)))

    def test_no_call_takes_long(self):
        start = time.perf_counter()
        great = great_rules()
        every = [great, Rules(great.ends, LETTERS), Rules(DEEP.ends, LETTERS), DEEP, WITH_300, WITH_301, MIXED]
        for one, other in itertools.product(every, repeat=2):
            told(parting, one, other)
            told(alike, one, other)
        for rules in every:
            told(needless, rules)
            plain_kind(rules)
        self.assertLess(time.perf_counter() - start, 20)


def plain_kind(rules):
    """The joins, or which error there is instead."""
    try:
        return joins(rules)
    except (Needed, TooMany) as error:
        return error.__class__.__name__


if __name__ == "__main__":
    unittest.main()
