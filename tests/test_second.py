"""The second way: all unfoldings with just so many steps are gone through."""

import copy
import time
import unittest

from made import CHAIN, MIXED, STEP, WIDE, great_rules, many_rules, mark, under
from onlyjoins.answers import never_needed, own_unfoldings
from onlyjoins.errors import BadNumber, TooMany
from onlyjoins.rules import Rules
from onlyjoins.second import never_needed_too
from onlyjoins.unfold import shorter
from plain import plain_own, unfoldings
from shapes import CALL, LEAF, chain, odd_values

LEAPS = Rules([chain(3), mark("a")], [STEP, under(under(CALL))])


class SecondTest(unittest.TestCase):

    def test_by_hand(self):
        for most in range(1, 7):
            self.assertIs(never_needed_too(CHAIN, most), False)
            self.assertIs(never_needed_too(MIXED, most), False)
            self.assertIs(never_needed_too(WIDE, most), True)
            self.assertIs(never_needed_too(Rules([LEAF], [STEP]), most), True)
            self.assertIs(never_needed_too(LEAPS, most), most > 2)
            self.assertIs(never_needed_too(Rules([chain(3), mark("a")], [STEP]), most), most > 2)

    def test_without_steps(self):
        for ends in [[LEAF], [mark("a")], [mark("a"), chain(3), LEAF]]:
            for most in range(1, 7):
                self.assertIs(never_needed_too(Rules(ends), most), True)

    def test_just_so_many_steps(self):
        # Longer ones are own, too, only if what is left of them is: so it never becomes False again.
        rules = Rules([chain(2), mark("a")], [STEP])
        self.assertEqual([never_needed_too(rules, most) for most in range(1, 7)], [False] + [True] * 5)

    def test_each_end_and_step_counts(self):
        steps = [under(CALL, word) for word in "efg"]
        wide = [under(LEAF, word) for word in "efg"]
        for gone in range(3):
            for place in range(3):
                ends = wide[:gone] + wide[gone + 1:]
                ends.insert(place, mark("a"))
                self.assertIs(never_needed_too(Rules(ends, steps), 2), False)
                self.assertIs(never_needed_too(Rules(ends, steps[:gone] + steps[gone + 1:]), 2), True)

    def test_against_all_unfoldings(self):
        kinds = {True: 0, False: 0}
        for maker, rules in many_rules(range(150)):
            many = len(rules.steps)
            for most in range(1, 7 if many < 2 else 5 if many == 2 else 4):
                rows = [one for one in unfoldings(rules, most) if len(one) == most + 1]
                wanted = all(shorter(rules, one) is not None for one in rows)
                self.assertIs(never_needed_too(rules, most), wanted)
                kinds[wanted] += 1
        self.assertGreater(min(kinds.values()), 100)

    def test_against_the_documents_words(self):
        for maker, rules in many_rules(range(120), steps=2, nodes=4):
            for most in [1, 2]:
                rows = [one for one in unfoldings(rules, most) if len(one) == most + 1]
                self.assertIs(never_needed_too(rules, most), not any(plain_own(rules, one) for one in rows))

    def test_as_the_answers(self):
        for maker, rules in many_rules(range(300, 400)):
            try:
                never = never_needed(rules)
            except TooMany:
                continue
            if not never:
                self.assertIs(never_needed_too(rules, 3), False)
                continue
            longest = max(len(one) - 1 for one in own_unfoldings(rules))
            for most in range(1, 5):
                self.assertIs(never_needed_too(rules, most), most > longest)

    def test_what_is_no_number_from_1_to_6(self):
        wrong = [0, 7, 8, -1, -2, -6, -7, 10 ** 999, -10 ** 999, True, False, None, "1", "6", "", b"1", (1,), [1],
                 {1: 1}, 1j, range(1, 2), Rules([LEAF])]
        wrong += [thing for thing in odd_values()
                  if not isinstance(thing, int) or isinstance(thing, bool) or not 1 <= thing <= 6]
        for rules in [CHAIN, WIDE, Rules([LEAF])]:
            for thing in wrong:
                with self.assertRaises(BadNumber) as caught:
                    never_needed_too(rules, thing)
                self.assertIs(caught.exception.value, thing)

    def test_nothing_hangs_on_what_was_asked_before(self):
        every = [CHAIN, WIDE, LEAPS, MIXED]
        before = [copy.deepcopy(vars(rules)) for rules in every]
        first = [never_needed_too(rules, most) for rules in every for most in range(1, 5)]
        with self.assertRaises(BadNumber):
            never_needed_too(WIDE, 0)
        again = [never_needed_too(rules, most) for rules in every[::-1] for most in range(4, 0, -1)]
        self.assertEqual(again[::-1], first)
        self.assertEqual([vars(rules) for rules in every], before)

    def test_names_of_parameters(self):
        self.assertIs(never_needed_too(most=1, rules=WIDE), True)

    def test_no_call_takes_long(self):
        start = time.perf_counter()
        # None of these are own, so all of them are gone through.
        rules = great_rules().without_end(0).with_end(LEAF)
        self.assertIs(never_needed_too(rules, 6), True)
        never_needed_too(great_rules(), 6)
        self.assertLess(time.perf_counter() - start, 10)


if __name__ == "__main__":
    unittest.main()
