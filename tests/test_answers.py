"""Answers: whether the calls are needed, papers that show it, and what is wrong with other papers."""

import copy
import itertools
import time
import unittest
from unittest import mock

from made import CHAIN, MIXED, STEP, WIDE, great_rules, many_rules, mark, under
from onlyjoins import answers
from onlyjoins.answers import check, least_steps, never_needed, own_unfoldings, verdict
from onlyjoins.errors import BadPaper, BadStore, BadUnfolding, JoinError, Needed, TooMany
from onlyjoins.rules import Rules
from onlyjoins.stores import Store
from onlyjoins.trees import fits_root
from onlyjoins.unfold import depth_of, is_unfolding, shorter, tree_of
from onlyjoins.views import view
from plain import all_depth, all_tree, fitted, of_tree, plain_fits, plain_least, plain_own, plain_view, unfoldings
from shapes import CALL, LEAF, chain, odd_values

WIDE_PAPER = ("never", ((0,), (1,)), (((0, 0), (0,)), ((0, 1), (0,))))
CHAIN_PAPER = ("needed", (0,), (0, 0))
# The chain ends where two further edges are enough: one step is needed, and no more.
TWO_EDGES = Rules([chain(2), mark("a")], [STEP])
# A longer step does at once what two shorter ones do.
LEAPS = Rules([chain(3), mark("a")], [STEP, under(under(CALL))])
WORDS = [under(CALL, word) for word in "efg"]
TALL = chain(3, "h", bottom=mark("z"))
# All unfoldings are own: 120 of at most three steps, before the height lets any view come again.
BUSHY = Rules([mark("x"), mark("y"), TALL], WORDS)
# The calls are never needed, but 300 unfoldings are own.
MANY_OWN = Rules(
    [(("a", "c"), (("e", (("a",), (("e", under(mark("b"))), ("e", (("a", "b", "c"), (("e", mark("c")),)))))),)),
     (("b",), (("e", (("b",), (("e", (("c",), (("e", mark("b", "c")), ("e", LEAF)))), ("e", LEAF)))),)),
     (("a",), (("e", under(under(mark("b")))),))],
    [(("b", "c"), (("e", (("b",), (("e", under(LEAF)), ("e", LEAF)), "call")),)),
     ((), (("e", (("a", "b"), (("e", LEAF),), "call")), ("e", mark("a")))),
     (("b",), (("e", (("a",), (("e", under(LEAF)),), "call")), ("e", (("a", "c"), (("e", LEAF),)))))])
# Own unfoldings of up to 13 steps, no two of which in a row have the same view.
MANY_STEPS = Rules(
    [under((("c",), (("e", (("c",), (("e", mark("c")),))),))),
     (("b", "c"), (("e", under((("b",), (("e", mark("a", "b")),)))),))],
    [(("b",), (("e", (("b", "c"), (("e", under(mark("a", "b"))),), "call")),)),
     (("a", "c"), (("e", (("a",), (("e", (("a",), (("e", mark("a", "b", "c")),))),), "call")),))])


def gone_through(rules, most_own=100, most_steps=40):
    """What is told of rules, by the document's words, with the own unfoldings as far as they were gone through."""
    own, row = [], [(end,) for end in range(len(rules.ends))]
    for steps in itertools.count():
        own += row
        if any(view(rules, one) == view(rules, one[many:]) for one in row for many in range(1, len(one))):
            return "needed", own
        if len(own) > most_own or row and steps > most_steps:
            return "too many", own
        if not row:
            return "never", own
        row = [(step,) + one for step in range(len(rules.steps)) for one in row]
        row = [one for one in row if shorter(rules, one) is None]


def told(rules):
    """What the package tells of rules, with all its functions at once."""
    try:
        paper = verdict(rules)
    except TooMany as error:
        kinds = set()
        for function in [never_needed, own_unfoldings, least_steps]:
            try:
                function(rules)
            except TooMany as other:
                kinds.add(other.most)
        return "too many", (error.most, kinds)
    return paper[0], paper


def kinds_of(rules):
    try:
        return "never" if never_needed(rules) else "needed"
    except TooMany:
        return "too many"


class AnswerCase(unittest.TestCase):

    def assert_never(self, rules, own, steps):
        self.assertIs(never_needed(rules), True)
        self.assertEqual(own_unfoldings(rules), own)
        self.assertEqual(least_steps(rules), steps)
        paper = verdict(rules)
        self.assertEqual(paper[:2], ("never", own))
        self.assertEqual(check(rules, paper), "never")

    def assert_needed(self, rules):
        self.assertIs(never_needed(rules), False)
        paper = verdict(rules)
        self.assertEqual(paper[0], "needed")
        self.assertEqual(check(rules, paper), "needed")
        for function in [own_unfoldings, least_steps]:
            with self.assertRaises(Needed) as caught:
                function(rules)
            self.assertEqual(check(rules, caught.exception.paper), "needed")

    def assert_too_many(self, rules, most=100):
        for function in [never_needed, verdict, own_unfoldings, least_steps]:
            with self.assertRaises(TooMany) as caught:
                function(rules)
            self.assertEqual(caught.exception.most, most)


class AnswersTest(AnswerCase):

    def test_the_examples_of_the_document(self):
        self.assertEqual((never_needed(CHAIN), check(CHAIN, CHAIN_PAPER)), (False, "needed"))
        self.assertIs(view(CHAIN, (0, 0)) == view(CHAIN, (0, 0, 0)) == (1, (), (0,)), True)
        self.assertEqual(check(WIDE, WIDE_PAPER), "never")
        self.assertEqual(verdict(WIDE)[0], "never")
        self.assertEqual((own_unfoldings(WIDE), least_steps(WIDE)), (((0,), (1,)), 0))

    def test_without_steps(self):
        self.assert_never(Rules([LEAF]), ((0,),), 0)
        self.assert_never(Rules([mark("a")] * 3), ((0,), (1,), (2,)), 0)
        self.assertEqual(verdict(Rules([mark("a"), mark("b")])), ("never", ((0,), (1,)), ()))

    def test_calls_that_are_never_needed(self):
        self.assert_never(WIDE, ((0,), (1,)), 0)
        self.assert_never(Rules([LEAF], [STEP]), ((0,),), 0)
        self.assert_never(Rules([mark("a")], [under(CALL, "e", ("a",))]), ((0,),), 0)
        self.assert_never(Rules([mark("a")], [under(CALL, "e", ("a",)), under(under(CALL), "f", ("a",))]), ((0,),), 0)
        self.assert_never(TWO_EDGES, ((0,), (0, 1), (1,)), 1)

    def test_fewer_steps_than_own_ones_have(self):
        own = ((0,), (0, 0, 1), (0, 1), (1,), (1, 1))
        self.assert_never(LEAPS, own, 1)

    def test_steps_that_are_alike(self):
        rules = Rules([chain(2), mark("a")], [STEP, STEP])
        self.assert_never(rules, ((0,), (0, 1), (1,), (1, 1)), 1)
        self.assert_needed(Rules([mark("a")], [STEP, STEP, STEP]))

    def test_calls_that_are_needed(self):
        self.assert_needed(CHAIN)
        self.assert_needed(MIXED)
        self.assert_needed(Rules([mark("a")], [under(under(under(CALL)))]))
        self.assert_needed(Rules([mark("a"), under(LEAF)], [STEP, under(CALL, "f")]))
        self.assert_needed(Rules([mark("a")], [STEP, under(CALL, "e", ("a",))]))
        self.assert_needed(Rules([mark("a")], [((), (("e", LEAF), ("e", CALL), ("f", mark("b"))))]))

    def test_a_mark_at_each_step(self):
        # What marks the call marks the root of the next step, so two such steps are one end.
        step = under((("b",), (), "call"), "e", ("b",))
        self.assert_needed(Rules([mark("a")], [step]))
        self.assert_never(Rules([mark("a"), under(mark("b"), "e", ("b",))], [step]), ((0,), (1,)), 0)

    def test_against_what_is_gone_through_plainly(self):
        kinds = {}
        for maker, rules in many_rules(range(400)):
            kind, own = gone_through(rules)
            found, paper = told(rules)
            self.assertEqual(found, kind, (rules.ends, rules.steps))
            kinds[kind] = kinds.get(kind, 0) + 1
            if kind == "too many":
                self.assertEqual(paper, (100, {100}))
                continue
            self.assertEqual(check(rules, paper), kind)
            self.assertIs(never_needed(rules), kind == "never")
            if kind == "never":
                self.assertEqual(paper[1], tuple(sorted(own)))
                self.assertEqual(own_unfoldings(rules), paper[1])
                self.assertTrue(all(len(part) <= 400 for part in paper[1:]))
            else:
                self.assert_needed(rules)
        self.assertGreater(min(kinds["never"], kinds["needed"]), 100)

    def test_own_ones_against_the_documents_words(self):
        held = 0
        for maker, rules in many_rules(range(200), nodes=4):
            if never_needed(rules):
                own = own_unfoldings(rules)
                most = max(len(one) for one in own)
                if most > 2 or len(rules.steps) > 2:
                    continue
                held += most == 2
                wanted = [one for one in unfoldings(rules, most) if plain_own(rules, one)]
                self.assertEqual(own, tuple(sorted(wanted)))
        self.assertGreater(held, 5)

    def test_the_least_number_of_steps_is_enough_and_needed(self):
        kinds = set()
        for maker, rules in many_rules(range(1000, 1300), steps=2):
            if kinds_of(rules) != "never":
                continue
            own = own_unfoldings(rules)
            deepest = max(all_depth(rules, one) for one in own)
            least = least_steps(rules)
            kinds.add(least)
            if deepest > 4:
                continue
            self.assertEqual(least, max(plain_least(rules, all_tree(rules, one), deepest)[1] for one in own))
            for one in unfoldings(rules, least + 1):
                self.assertTrue(fitted(rules, of_tree(all_tree(rules, one)), 0, least))
        self.assertLessEqual({0, 1, 2}, kinds)

    def test_each_unfolding_that_is_not_own_is_shortened(self):
        for rules in [WIDE, TWO_EDGES, LEAPS]:
            word, own, pairs = verdict(rules)
            wanted = [(step,) + one for one in own for step in range(len(rules.steps))]
            self.assertEqual([pair[0] for pair in pairs], sorted(one for one in wanted if one not in own))
            for longer, other in pairs:
                self.assertLess(depth_of(rules, other), depth_of(rules, longer))
                self.assertTrue(plain_fits(of_tree(all_tree(rules, longer)), 0, all_tree(rules, other)))

    def test_loops_may_be_put_in_again_and_again(self):
        for maker, rules in many_rules(range(300)):
            if kinds_of(rules) == "needed":
                _, loop, rest = verdict(rules)
                one = loop + rest
                self.assertEqual(view(rules, one), view(rules, rest))
                while is_unfolding(rules, loop + one):
                    one = loop + one
                self.assertIsNone(shorter(rules, one))
                self.assertEqual(check(rules, ("needed", loop, one[len(loop):])), "needed")

    def test_papers_of_needed_calls_by_the_documents_words(self):
        held = 0
        for maker, rules in many_rules(range(200), nodes=3):
            if kinds_of(rules) == "needed":
                _, loop, rest = verdict(rules)
                if all_depth(rules, loop + rest) > 4:
                    continue
                held += 1
                self.assertEqual(plain_view(rules, loop + rest), plain_view(rules, rest))
                for many in range(len(loop)):
                    self.assertTrue(plain_own(rules, (loop + rest)[many:]))
        self.assertGreater(held, 20)


class TooManyTest(AnswerCase):

    def test_more_than_100_own_ones(self):
        self.assertEqual(gone_through(BUSHY)[0], "too many")
        self.assertEqual(len(gone_through(BUSHY)[1]), 120)
        self.assert_too_many(BUSHY)

    def test_it_comes_ahead_of_needed(self):
        paper = ("needed", (0,), (0, 0, 0, 0))
        self.assertEqual(check(BUSHY, paper), "needed")
        with mock.patch.object(answers, "MOST_OWN", 1000):
            self.assertEqual(verdict(BUSHY)[0], "needed")

    def test_a_view_that_comes_again_first(self):
        # At four steps there are more than 100, but there a view comes again.
        for ends in [[TALL], [mark("x"), TALL]]:
            rules = Rules(ends, WORDS)
            self.assertGreater(len(gone_through(rules)[1]), 100)
            self.assert_needed(rules)

    def test_calls_that_are_never_needed_with_many_own_ones(self):
        self.assert_too_many(MANY_OWN)
        with mock.patch.object(answers, "MOST_OWN", 300):
            self.assertEqual(len(own_unfoldings(MANY_OWN)), 300)
            self.assertIs(never_needed(MANY_OWN), True)
            self.assertEqual(check(MANY_OWN, verdict(MANY_OWN)), "never")
        with mock.patch.object(answers, "MOST_OWN", 299):
            with self.assertRaises(TooMany):
                own_unfoldings(MANY_OWN)

    def test_check_raises_none(self):
        with mock.patch.object(answers, "MOST_OWN", 300):
            paper = verdict(MANY_OWN)
        self.assertEqual(check(MANY_OWN, paper), "never")
        with self.assertRaises(BadPaper) as caught:
            check(BUSHY, ("needed", (0,), (1, 0)))
        self.assertEqual(caught.exception.place, "view")

    def test_own_ones_of_many_steps(self):
        own = own_unfoldings(MANY_STEPS)
        self.assertEqual(max(len(one) for one in own) - 1, 13)
        self.assertEqual(check(MANY_STEPS, verdict(MANY_STEPS)), "never")
        for most in range(5, 16):
            with mock.patch.object(answers, "MOST_STEPS", most):
                if most >= 13:
                    self.assertEqual(own_unfoldings(MANY_STEPS), own)
                else:
                    self.assert_too_many(MANY_STEPS)

    def test_with_other_bounds_as_the_document_says(self):
        for most_own, most_steps in [(3, 40), (10, 40), (20, 40), (100, 0), (100, 1), (100, 2), (100, 3), (8, 2)]:
            kinds = set()
            with mock.patch.multiple(answers, MOST_OWN=most_own, MOST_STEPS=most_steps):
                for maker, rules in many_rules(range(90)):
                    wanted = gone_through(rules, most_own, most_steps)[0]
                    self.assertEqual(kinds_of(rules), wanted)
                    kinds.add(wanted)
            # No view comes again within one step, as its depth is another one.
            needed = {"needed"} if most_steps > 1 else set()
            self.assertLessEqual({"never"} | needed, kinds)
            self.assertIn("too many", kinds | ({"too many"} if most_own == 100 and most_steps > 2 else set()))


class CheckTest(unittest.TestCase):

    def assert_bad(self, place, rules, paper):
        with self.assertRaises(BadPaper) as caught:
            check(rules, paper)
        self.assertEqual(caught.exception.place, place, paper)

    def test_form(self):
        own, pairs = WIDE_PAPER[1:]
        for paper in [(), ("never",), ("never", own), ("never", own, pairs, ()), ("needed", (0,)), list(WIDE_PAPER),
                      ("Never", own, pairs), ("", own, pairs), (own, "never", pairs), ("need", (0,), (0, 0)),
                      (b"never", own, pairs), (("never",), own, pairs), (None, own, pairs), (True, own, pairs),
                      "never", "needed", ["needed", (0,), (0, 0)], {"never": 1}, ((), (), ()), (1, 2, 3), "abc"]:
            self.assert_bad("form", WIDE, paper)
            self.assert_bad("form", CHAIN, paper)
        for thing in odd_values():
            self.assert_bad("form", WIDE, thing)
            self.assert_bad("form", WIDE, (thing, own, pairs))

    def test_own(self):
        pairs = WIDE_PAPER[2]
        for own in [(), ((0,),), ((1,),), ((1,), (0,)), ((0,), (0,), (1,)), ((0,), (1,), (1,)), ((0,), (1,), (2,)),
                    [(0,), (1,)], ([0], (1,)), ((0,), [1]), ((0,), (0, 0, 0), (1,)), ((0,), (0, 0, 1), (0, 1, 1), (1,)),
                    ((0,), (1,), (0, 0)), ((0,), (1,), ()), ((), (0,), (1,)), ((False,), (True,)), ((0,), (True,)),
                    ((0,), (0, 1), (False, 0, 1), (1,)), ((0,), (1,), (1, 0)), (0, 1), "01", None, {(0,), (1,)},
                    ((-1,), (0,), (1,)), ((0,), (1,), (10 ** 999,))]:
            self.assert_bad("own", WIDE, ("never", own, pairs))
            self.assert_bad("own", WIDE, ("never", own, None))
        deep = tuple(sorted([(0,) * many for many in range(1, 133)] + [(1,)]))
        self.assert_bad("own", WIDE, ("never", deep, ()))

    def test_own_ones_need_not_be_own(self):
        own = ((0,), (0, 0), (0, 1), (1,))
        pairs = (((0, 0, 0), (0, 0)), ((0, 0, 1), (0,)))
        self.assertEqual(check(WIDE, ("never", own, pairs)), "never")
        self.assertEqual(check(WIDE, ("never", own, (((0, 0, 0), (0,)), ((0, 0, 1), (0, 0))))), "never")

    def test_own_ones_as_deep_as_may_be(self):
        # The longer ones are deeper than what may be passed for an unfolding by itself.
        own = tuple(sorted([(0,) * many for many in range(1, 132)] + [(1,)]))
        pairs = (((0,) * 132, (0,)), ((0, 1), (0,)))
        self.assertEqual(check(WIDE, ("never", own, pairs)), "never")
        self.assertEqual(check(WIDE, ("never", own, (((0,) * 132, (0,) * 131), ((0, 1), (0,))))), "never")
        self.assert_bad("shorter", WIDE, ("never", own, (((0,) * 133, (0,)), ((0, 1), (0,)))))
        self.assert_bad("shorter", WIDE, ("never", own, (((0,) * 132, (0,) * 132), ((0, 1), (0,)))))
        leaps = Rules([LEAF], [STEP, under(under(under(CALL)))])
        own = tuple(sorted([(0,) * many + (0,) for many in range(131)]))
        pairs = [((1,) + one, (0,)) for one in own] + [((0,) * 132, (0,))]
        self.assertEqual(check(leaps, ("never", own, tuple(sorted(pairs)))), "never")
        # One that shortens must be no deeper than what may be passed.
        pairs[130] = (pairs[130][0], (0,) * 131)
        self.assertEqual(check(leaps, ("never", own, tuple(sorted(pairs)))), "never")
        pairs[130] = (pairs[130][0], (0,) * 132)
        self.assert_bad("shorter", leaps, ("never", own, tuple(sorted(pairs))))

    def test_shorter(self):
        own = WIDE_PAPER[1]
        first, second = WIDE_PAPER[2]
        for pairs in [(), (first,), (second,), (second, first), (first, first), (first, first, second),
                      (first, second, second), (first, second, ((0, 0, 0), (0,))), (((0,), (0,)), first, second),
                      [first, second], (list(first), second), (first, list(second)), (first, (second[0],)),
                      (first, second + ((0,),)), (first, ((0, 1), (1,))), (first, ((0, 1), (0, 1))),
                      (((0, 0), (1,)), second), (((0, 0), (0, 0)), second), (((0, 0), (0, 0, 0)), second),
                      (first, ((0, 1), (2,))), (first, ((0, 1), ())), (first, ((0, 1), None)),
                      (first, ((0, 1), [0])), (first, ([0, 1], (0,))), (first, ((0, True), (0,))),
                      (((0, False), (0,)), second), (((False, 0), (0,)), second), (first, ((0, 1), (False,))),
                      (first, ((1, 1), (0,))), (first, ((0, 2), (0,))), (first, None), (None, second), None, "", 0,
                      {first: second}, (((0,), (0, 0)), ((0,), (0, 1))), (first, ((0, 0), (0,))), (first, "ab")]:
            self.assert_bad("shorter", WIDE, ("never", own, pairs))

    def test_shorter_ones_of_lower_depth_that_are_fitted(self):
        word, own, pairs = verdict(LEAPS)
        for number, (longer, _) in enumerate(pairs):
            for other in unfoldings(LEAPS, 4):
                paper = (word, own, pairs[:number] + ((longer, other),) + pairs[number + 1:])
                if depth_of(LEAPS, other) < depth_of(LEAPS, longer) and fits_root(
                        tree_of(LEAPS, longer), tree_of(LEAPS, other)):
                    self.assertEqual(check(LEAPS, paper), "never")
                else:
                    self.assert_bad("shorter", LEAPS, paper)

    def test_calls_that_are_needed_have_no_paper_that_they_are_not(self):
        self.assert_bad("shorter", CHAIN, ("never", ((0,),), ()))
        self.assert_bad("shorter", CHAIN, ("never", ((0,),), (((0, 0), (0,)),)))
        self.assert_bad("shorter", CHAIN, ("never", ((0,), (0, 0)), (((0, 0, 0), (0, 0)),)))
        own = tuple((0,) * many for many in range(1, 132))
        for other in [(0,), (0,) * 131, (0,) * 132]:
            self.assert_bad("shorter", CHAIN, ("never", own, (((0,) * 132, other),)))

    def test_loop(self):
        for loop in [(), [0], (1,), (-1,), (True,), (False,), (0, False), (0, 1), (None,), ("0",), "0", 0, None,
                     ((0,),), (0, 10 ** 999), b"\x00", {0: 0}, (0, (0,))]:
            self.assert_bad("loop", CHAIN, ("needed", loop, (0, 0)))
            self.assert_bad("loop", CHAIN, ("needed", loop, None))
        self.assert_bad("loop", Rules([LEAF]), ("needed", (0,), (0,)))
        self.assert_bad("loop", Rules([LEAF]), ("needed", (), (0,)))

    def test_rest(self):
        for rest in [(), [0], [0, 0], (1,), (0, 1), (1, 0), (True,), (False,), (0, False), (False, 0), None, "0", 0,
                     ((0,),), (0, 10 ** 999), {0: 0}, (0,) * 132]:
            self.assert_bad("rest", CHAIN, ("needed", (0,), rest))
        self.assert_bad("rest", CHAIN, ("needed", (0,), (0,) * 131))
        self.assert_bad("rest", CHAIN, ("needed", (0,) * 131, (0,)))
        self.assert_bad("rest", CHAIN, ("needed", (0,) * 29000, (0,)))
        self.assertEqual(check(CHAIN, ("needed", (0,), (0,) * 130)), "needed")
        self.assertEqual(check(CHAIN, ("needed", (0,) * 129, (0, 0))), "needed")

    def test_some_that_are_not_own(self):
        self.assert_bad("own", WIDE, ("needed", (0,), (0,)))
        self.assert_bad("own", WIDE, ("needed", (0,), (0, 1)))
        self.assert_bad("own", WIDE, ("needed", (0, 0), (0,)))
        self.assert_bad("own", TWO_EDGES, ("needed", (0, 0), (1,)))
        self.assert_bad("own", TWO_EDGES, ("needed", (0,), (0, 1)))

    def test_views_that_are_unlike(self):
        self.assert_bad("view", CHAIN, ("needed", (0,), (0,)))
        self.assert_bad("view", CHAIN, ("needed", (0,) * 5, (0,)))
        self.assert_bad("view", TWO_EDGES, ("needed", (0,), (1,)))
        marked = Rules([mark("x"), mark("y")], [under(CALL, "e", ("a",)), under(CALL, "e", ("b",))])
        self.assertEqual(check(marked, ("needed", (0, 1), (0, 0))), "needed")
        self.assert_bad("view", marked, ("needed", (1,), (0, 0)))
        self.assert_bad("view", marked, ("needed", (1, 1), (0, 0)))

    def test_rest_may_be_shortened_if_what_is_longer_is_own(self):
        # What is left of an own unfolding is own: so an own one ahead of a shortened one there is none.
        for one in unfoldings(WIDE, 3):
            for loop in [(0,), (0, 0)]:
                self.assert_bad("own", WIDE, ("needed", loop, one))

    def test_each_part_of_a_paper_that_holds(self):
        wrong = [thing for thing in odd_values() if isinstance(thing, bool) or not isinstance(thing, (int, tuple))]
        wrong += [(), ((),), ((0,), 0), -1, 3, 10 ** 999, -10 ** 999]
        for rules in [WIDE, TWO_EDGES, LEAPS, CHAIN, MIXED]:
            paper = verdict(rules)
            names = {0: "form", 1: "own", 2: "shorter"} if paper[0] == "never" else {0: "form", 1: "loop", 2: "rest"}
            for place in places(paper)[1:]:
                for thing in wrong:
                    self.assert_bad(names[place[0]], rules, put_in(paper, place, thing))

    def test_what_was_told_in_another_place(self):
        tree = tree_of(MIXED, (2,) * 43 + (0, 0))
        for told in [tree, under(tree), (tree,) * 3, ((0,), tree), verdict(LEAPS), view(MIXED, (0, 0)), WIDE, TALL]:
            self.assertIs(is_unfolding(MIXED, told), False)
            with self.assertRaises(BadUnfolding) as caught:
                view(MIXED, told)
            self.assertIs(caught.exception.value, told)
            for place in ["nodes", "marked", "edges"]:
                with self.assertRaises(BadStore) as caught:
                    Store(**{"nodes": ("a",), place: told})
                self.assertEqual(caught.exception.place, place)
            self.assert_bad("own", WIDE, ("never", told, ()))
            self.assert_bad("own", WIDE, ("never", ((0,), told), ()))
            self.assert_bad("shorter", WIDE, WIDE_PAPER[:2] + (told,))
            self.assert_bad("shorter", WIDE, WIDE_PAPER[:2] + ((WIDE_PAPER[2][0], told),))
            self.assert_bad("shorter", WIDE, WIDE_PAPER[:2] + ((WIDE_PAPER[2][0], ((0, 1), told)),))
            self.assert_bad("loop", CHAIN, ("needed", told, (0, 0)))
            self.assert_bad("rest", CHAIN, ("needed", (0,), told))
        self.assert_bad("form", CHAIN, (tree, (0,), (0, 0)))

    def test_a_call_that_raises_changes_nothing(self):
        paper = ["never", [(0,), (1,)], []]
        before = copy.deepcopy(paper), copy.deepcopy(vars(WIDE))
        for thing in [paper, tuple(paper)]:
            with self.assertRaises(JoinError):
                check(WIDE, thing)
        self.assertEqual((paper, vars(WIDE)), before)


def places(paper, place=()):
    """The way to each part of a paper, however deep."""
    found = [place]
    if isinstance(paper, tuple):
        for number, part in enumerate(paper):
            found += places(part, place + (number,))
    return found


def put_in(paper, place, thing):
    """The paper with something else in one place."""
    if not place:
        return thing
    return paper[:place[0]] + (put_in(paper[place[0]], place[1:], thing),) + paper[place[0] + 1:]


class CallsTest(unittest.TestCase):

    def test_nothing_hangs_on_what_was_asked_before(self):
        every = [CHAIN, WIDE, TWO_EDGES, LEAPS, MIXED, great_rules()]
        first = [verdict(rules) for rules in every]
        before = [copy.deepcopy(vars(rules)) for rules in every]
        for rules in every[::-1]:
            never_needed(rules)
            for function in [own_unfoldings, least_steps]:
                try:
                    function(rules)
                except Needed:
                    pass
            with self.assertRaises(BadPaper):
                check(rules, ("never", (), ()))
        self.assertEqual([verdict(rules) for rules in every[::-1]][::-1], first)
        self.assertEqual([vars(rules) for rules in every], before)

    def test_names_of_parameters(self):
        self.assertIs(never_needed(rules=WIDE), True)
        self.assertEqual(verdict(rules=WIDE)[0], "never")
        self.assertEqual(check(paper=WIDE_PAPER, rules=WIDE), "never")
        self.assertEqual(own_unfoldings(rules=WIDE), ((0,), (1,)))
        self.assertEqual(least_steps(rules=WIDE), 0)

    def test_no_call_takes_long(self):
        start = time.perf_counter()
        for rules in [great_rules(), BUSHY, MANY_OWN, MANY_STEPS, Rules([TALL], WORDS)]:
            kinds_of(rules)
        like = Rules([LEAF, mark("a")], [STEP] * 3)
        own = tuple(sorted([(0,) * many + (0,) for many in range(131)] + [(1,)]))
        longer = sorted((step,) + one for one in own for step in range(3))
        pairs = tuple((one, one[1:] if len(one) > 2 else (0,)) for one in longer if one not in own)
        self.assertEqual(check(like, ("never", own, pairs)), "never")
        self.assertEqual(check(CHAIN, ("needed", (0,) * 64, (0,) * 65)), "needed")
        self.assertLess(time.perf_counter() - start, 10)


if __name__ == "__main__":
    unittest.main()
