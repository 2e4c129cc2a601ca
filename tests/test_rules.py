"""Rules: what they refuse, what they keep, and rules with one more or one less."""

import copy
import itertools
import operator
import unittest

from onlyjoins.errors import BadNumber, BadRules, JoinError
from onlyjoins.rules import Rules
from shapes import CALL, LEAF, odd_values

ENDS = [LEAF, (("a",), ()), ((), (("e", (("b",), ())),)), (("a", "b"), ())]
STEPS = [((), (("e", CALL),)), (("a",), (("f", CALL),)), ((), (("e", LEAF), ("e", CALL))), (("c",), (("e", CALL),))]
BAD_TREES = [None, True, 0, "a", [(), ()], ((), []), (("b", "a"), ()), CALL, STEPS[0], ((), (("e", LEAF),) * 4)]
BAD_BODIES = [None, False, 1, "call", CALL, LEAF, ENDS[2], ((), (("e", CALL), ("e", CALL))), [(), (("e", CALL),)]]


class RulesTest(unittest.TestCase):

    def assert_bad(self, place, ends, *steps):
        with self.assertRaises(BadRules) as caught:
            Rules(ends, *steps)
        self.assertEqual(caught.exception.place, place)

    def assert_no_number(self, method, number):
        with self.assertRaises(BadNumber) as caught:
            method(number)
        self.assertIs(caught.exception.value, number)

    def test_fields(self):
        for ends in range(1, 4):
            for steps in range(4):
                for kind, other in itertools.product([list, tuple], repeat=2):
                    rules = Rules(kind(ENDS[:ends]), other(STEPS[:steps]))
                    self.assertIsInstance(rules.ends, tuple)
                    self.assertIsInstance(rules.steps, tuple)
                    self.assertEqual(rules.ends, tuple(ENDS[:ends]))
                    self.assertEqual(rules.steps, tuple(STEPS[:steps]))
                    self.assertEqual(vars(rules), {"ends": rules.ends, "steps": rules.steps})

    def test_steps_may_be_left_out(self):
        self.assertEqual(Rules([LEAF]).steps, ())
        self.assertEqual(Rules(ends=(LEAF,), steps=[]).steps, ())

    def test_items_may_be_alike(self):
        rules = Rules([LEAF] * 3, [STEPS[0]] * 3)
        self.assertEqual((rules.ends, rules.steps), ((LEAF,) * 3, (STEPS[0],) * 3))

    def test_numbers_of_items(self):
        for kind in [list, tuple]:
            self.assert_bad(None, kind([]))
            self.assert_bad(None, kind(ENDS))
            self.assert_bad(None, kind([]), kind(STEPS[:1]))
            self.assert_bad(None, kind(ENDS[:1]), kind(STEPS))
            self.assert_bad(None, kind([LEAF] * 10000))

    def test_other_kinds_than_lists_and_tuples(self):
        for thing in odd_values():
            if not isinstance(thing, (list, tuple)):
                self.assert_bad(None, thing)
                self.assert_bad(None, [LEAF], thing)
        for thing in ["abc", {0: LEAF}, {LEAF}, iter([LEAF]), range(1), dict.fromkeys([LEAF]).keys(), Rules([LEAF])]:
            self.assert_bad(None, thing)
            self.assert_bad(None, [LEAF], thing)

    def test_first_wrong_end(self):
        for bad in BAD_TREES + odd_values():
            self.assert_bad(("end", 0), [bad])
            self.assert_bad(("end", 1), (LEAF, bad))
            self.assert_bad(("end", 2), [LEAF, LEAF, bad])
            self.assert_bad(("end", 1), [LEAF, bad, bad])
            self.assert_bad(("end", 0), [bad, LEAF, bad])

    def test_first_wrong_step(self):
        for bad in BAD_BODIES + odd_values():
            self.assert_bad(("step", 0), [LEAF], [bad])
            self.assert_bad(("step", 1), [LEAF], (STEPS[0], bad))
            self.assert_bad(("step", 2), [LEAF], [STEPS[0], STEPS[1], bad])
            self.assert_bad(("step", 0), [LEAF], [bad, STEPS[0], bad])

    def test_order_of_refusals(self):
        self.assert_bad(None, [], [None])
        self.assert_bad(None, [None], STEPS)
        self.assert_bad(None, [None], None)
        self.assert_bad(None, None, [None])
        self.assert_bad(("end", 1), [LEAF, None], [None])
        self.assert_bad(("end", 2), [LEAF, LEAF, STEPS[0]], [LEAF])
        self.assert_bad(("step", 0), [LEAF], [LEAF])

    def test_lists_stay_and_may_change_later(self):
        ends, steps = list(ENDS[:2]), list(STEPS[:2])
        rules = Rules(ends, steps)
        self.assertEqual((ends, steps), (ENDS[:2], STEPS[:2]))
        ends.append(None)
        ends[0] = None
        steps.clear()
        self.assertEqual((rules.ends, rules.steps), (tuple(ENDS[:2]), tuple(STEPS[:2])))
        self.assertEqual(rules, Rules(ENDS[:2], STEPS[:2]))

    def test_with_end(self):
        rules = Rules(ENDS[:1], STEPS[:1])
        more = rules.with_end(ENDS[1])
        self.assertIsInstance(more, Rules)
        self.assertEqual((more.ends, more.steps), (tuple(ENDS[:2]), tuple(STEPS[:1])))
        self.assertEqual(rules, Rules(ENDS[:1], STEPS[:1]))
        self.assertEqual(more.with_end(tree=ENDS[2]), Rules(ENDS[:3], STEPS[:1]))

    def test_with_step(self):
        rules = Rules(ENDS[:1])
        for many in range(3):
            more = rules.with_step(STEPS[many])
            self.assertEqual((more.ends, more.steps), (tuple(ENDS[:1]), tuple(STEPS[:many + 1])))
            self.assertEqual(rules, Rules(ENDS[:1], STEPS[:many]))
            rules = more
        self.assertEqual(Rules([LEAF]).with_step(body=STEPS[0]), Rules([LEAF], STEPS[:1]))

    def test_a_wrong_further_end_or_step(self):
        for many in range(1, 4):
            for bad in BAD_TREES + odd_values():
                with self.assertRaises(BadRules) as caught:
                    Rules(ENDS[:many]).with_end(bad)
                self.assertEqual(caught.exception.place, ("end", many))
        for many in range(4):
            for bad in BAD_BODIES + odd_values():
                with self.assertRaises(BadRules) as caught:
                    Rules([LEAF], STEPS[:many]).with_step(bad)
                self.assertEqual(caught.exception.place, ("step", many))

    def test_a_fourth_end_or_step(self):
        full = Rules(ENDS[:3], STEPS[:3])
        for method, item in [(full.with_end, LEAF), (full.with_step, STEPS[0])]:
            with self.assertRaises(BadRules) as caught:
                method(item)
            self.assertIs(caught.exception.place, None)
        self.assertEqual(full, Rules(ENDS[:3], STEPS[:3]))

    def test_without_end(self):
        rules = Rules(ENDS[:3], STEPS[:2])
        for number in range(3):
            left = rules.without_end(number)
            self.assertEqual(left, Rules(ENDS[:number] + ENDS[number + 1:3], STEPS[:2]))
            self.assertIsInstance(left.ends, tuple)
        self.assertEqual(rules, Rules(ENDS[:3], STEPS[:2]))
        self.assertEqual(Rules(ENDS[:2]).without_end(number=0), Rules(ENDS[1:2]))

    def test_without_step(self):
        rules = Rules(ENDS[:1], STEPS[:3])
        for number in range(3):
            left = rules.without_step(number)
            self.assertEqual(left, Rules(ENDS[:1], STEPS[:number] + STEPS[number + 1:3]))
        self.assertEqual(rules, Rules(ENDS[:1], STEPS[:3]))
        self.assertEqual(Rules([LEAF], STEPS[:1]).without_step(number=0), Rules([LEAF]))

    def test_without_one_of_those_that_are_alike(self):
        rules = Rules([LEAF, ENDS[1], LEAF])
        self.assertEqual(rules.without_end(2).ends, (LEAF, ENDS[1]))
        self.assertEqual(rules.without_end(0).ends, (ENDS[1], LEAF))

    def test_without_the_only_end(self):
        rules = Rules([LEAF], STEPS[:3])
        for number in [0, 1, -1, True, False, None, "0"]:
            self.assert_no_number(rules.without_end, number)

    def test_numbers_of_none(self):
        rules = Rules(ENDS[:2], STEPS[:2])
        for number in [2, 3, -1, -2, 10 ** 999, -10 ** 999, "0", (0,), [0], 0j]:
            self.assert_no_number(rules.without_end, number)
            self.assert_no_number(rules.without_step, number)
        for number in odd_values():
            if isinstance(number, bool) or not isinstance(number, int) or not 0 <= number < 2:
                self.assert_no_number(rules.without_end, number)
                self.assert_no_number(rules.without_step, number)
        self.assert_no_number(Rules([LEAF]).without_step, 0)
        self.assert_no_number(Rules([LEAF], STEPS[:1]).without_step, 1)
        self.assertEqual(rules, Rules(ENDS[:2], STEPS[:2]))

    def test_refusals_are_join_errors(self):
        with self.assertRaises(JoinError):
            Rules(None)
        with self.assertRaises(JoinError):
            Rules([LEAF]).without_end(0)

    def test_equal(self):
        for ends, steps in itertools.product([ENDS[:1], ENDS[:2], ENDS[1:2]], [[], STEPS[:1], STEPS[:2]]):
            for other, others in itertools.product([ENDS[:1], ENDS[:2], ENDS[1:2]], [[], STEPS[:1], STEPS[:2]]):
                alike = (ends, steps) == (other, others)
                self.assertIs(Rules(ends, steps) == Rules(tuple(other), others), alike)
                self.assertIs(Rules(ends, steps) != Rules(tuple(other), others), not alike)

    def test_order_counts(self):
        self.assertNotEqual(Rules(ENDS[:2]), Rules(ENDS[1::-1]))
        self.assertNotEqual(Rules([LEAF], STEPS[:2]), Rules([LEAF], STEPS[1::-1]))

    def test_other_values_are_not_equal(self):
        rules = Rules([LEAF], STEPS[:1])
        for value in odd_values() + [rules.ends, (rules.ends, rules.steps), Rules]:
            self.assertIs(rules == value, False)
            self.assertIs(rules != value, True)

    def test_other_operators(self):
        rules = Rules([LEAF], STEPS[:1])
        signs = [operator.lt, operator.le, operator.gt, operator.ge, operator.add, operator.sub, operator.mul,
                 operator.floordiv, operator.truediv, operator.mod, operator.pow, operator.lshift, operator.rshift,
                 operator.and_, operator.or_, operator.xor, operator.matmul, divmod]
        for sign in signs:
            for value in [Rules([LEAF]), rules, 0, 1, None, True, "a", "", b"a", (), [], {}, {"a"}, object()]:
                with self.assertRaises(TypeError):
                    sign(rules, value)
                with self.assertRaises(TypeError):
                    sign(value, rules)
        for sign in [operator.neg, operator.pos, operator.invert, abs]:
            with self.assertRaises(TypeError):
                sign(rules)

    def test_iteration_and_in(self):
        rules = Rules([LEAF], STEPS[:1])
        for value in [LEAF, STEPS[0], None, rules, 0]:
            with self.assertRaises(TypeError):
                value in rules
        with self.assertRaises(TypeError):
            iter(rules)
        with self.assertRaises(TypeError):
            list(rules)
        with self.assertRaises(TypeError):
            rules[0]

    def test_refused_calls_change_nothing(self):
        rules = Rules(ENDS[:3], STEPS[:3])
        before = copy.deepcopy(vars(rules))
        for method, item in [(rules.with_end, None), (rules.with_step, None), (rules.with_end, LEAF),
                             (rules.without_end, 3), (rules.without_step, True)]:
            with self.assertRaises(JoinError):
                method(item)
            self.assertEqual(vars(rules), before)

    def test_methods_stand_in_the_class(self):
        for name in ["__init__", "__eq__", "with_end", "with_step", "without_end", "without_step"]:
            self.assertIn(name, vars(Rules))


if __name__ == "__main__":
    unittest.main()
