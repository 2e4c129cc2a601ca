"""Benches: deeds, undo, trials, and what is refused without a trace."""

import copy
import itertools
import operator
import random
import time
import unittest

from made import CHAIN, STEP, WIDE, Maker, great_rules, mark, under
from onlyjoins.bench import Bench, tried
from onlyjoins.errors import BadNumber, BadRules, JoinError
from onlyjoins.rules import Rules
from onlyjoins.stores import Store, chosen
from shapes import CALL, LEAF, chain, odd_values

ROW = Store(("n", "o", "p"), [("p", "a")], [("n", "e", "o"), ("o", "e", "p")])
EMPTY = Store(("n", "o"))
NO_NODES = ["m", "q", "nn", "N", "", "n ", "a", ("n",), ["n"], b"n", 0, -1, 10 ** 999, True, False, None]
NO_WORDS = ["", "A", "aB", "a b", "a1", "abcdefghi", "a" * 30000, "\n", "a\n", ("a",), ["a"], b"a", 0, True, None]
NO_TREES = [None, True, 0, "a", "-", [(), ()], ((), []), (("b", "a"), ()), CALL, STEP, chain(4)]
NO_BODIES = [None, False, 1, "call", CALL, LEAF, under(LEAF), [(), (("e", CALL),)], chain(4, bottom=CALL)]
SIGNS = [operator.lt, operator.le, operator.gt, operator.ge, operator.add, operator.sub, operator.mul,
         operator.floordiv, operator.truediv, operator.mod, operator.pow, operator.lshift, operator.rshift,
         operator.and_, operator.or_, operator.xor, operator.matmul, divmod,
         operator.iadd, operator.isub, operator.imul, operator.ior, operator.iand, operator.ixor]


class Stop(Exception):
    """An exception of no package."""


class Halt(BaseException):
    """One that is no Exception."""


class Plain:
    """What a bench should be, kept in plain lists: all that was there, one after another."""

    def __init__(self, rules, store):
        self.rows = [(list(rules.ends), list(rules.steps), set(store.marked), set(store.edges))]
        self.nodes = store.nodes

    def do(self, part, thing):
        row = [copy.copy(every) for every in self.rows[-1]]
        row[part].add(thing) if part > 1 else row[part].append(thing)
        self.rows.append(tuple(row))

    def undo(self, many):
        del self.rows[len(self.rows) - many:]

    def rules(self):
        return Rules(*self.rows[-1][:2])

    def store(self):
        return Store(self.nodes, *map(sorted, self.rows[-1][2:]))


class BenchCase(unittest.TestCase):

    def assert_is(self, bench, rules, store, deeds):
        self.assertEqual((bench.rules, bench.store, len(bench)), (rules, store, deeds))
        self.assertIsInstance(bench.rules, Rules)
        self.assertIsInstance(bench.store, Store)
        self.assertEqual(bench.picked(), chosen(rules, store))

    def assert_refused(self, kind, value, call, *told):
        with self.assertRaises(kind) as caught:
            call(*told)
        if kind is BadNumber:
            self.assertIs(caught.exception.value, value)
        else:
            self.assertEqual(caught.exception.place, value)

    def all_of(self, bench):
        """All that a bench is, down to what undo would take back."""
        seen = [(bench.rules, bench.store, len(bench))]
        with bench.trial():
            while len(bench):
                bench.undo()
                seen.append((bench.rules, bench.store, len(bench)))
        return seen


class DeedsTest(BenchCase):

    def test_a_new_one(self):
        bench = Bench(CHAIN, ROW)
        self.assert_is(bench, CHAIN, ROW, 0)
        self.assertEqual(bench.picked(), ("n", "o", "p"))

    def test_each_deed(self):
        bench = Bench(Rules([mark("a")]), EMPTY)
        self.assertEqual(bench.picked(), ())
        self.assertIsNone(bench.mark("o", "a"))
        self.assert_is(bench, Rules([mark("a")]), Store(("n", "o"), [("o", "a")]), 1)
        self.assertEqual(bench.picked(), ("o",))
        self.assertIsNone(bench.edge("n", "e", "o"))
        self.assert_is(bench, Rules([mark("a")]), Store(("n", "o"), [("o", "a")], [("n", "e", "o")]), 2)
        self.assertIsNone(bench.step(STEP))
        self.assert_is(bench, CHAIN, Store(("n", "o"), [("o", "a")], [("n", "e", "o")]), 3)
        self.assertEqual(bench.picked(), ("n", "o"))
        self.assertIsNone(bench.end(LEAF))
        self.assert_is(bench, CHAIN.with_end(LEAF), Store(("n", "o"), [("o", "a")], [("n", "e", "o")]), 4)
        self.assertIsNone(bench.undo())
        self.assertIsNone(bench.undo(3))
        self.assert_is(bench, Rules([mark("a")]), EMPTY, 0)

    def test_what_was_passed_and_what_was_read_stay(self):
        rules, store = Rules([mark("a")]), Store(("n", "o"))
        bench = Bench(rules, store)
        seen = bench.rules, bench.store
        bench.end(LEAF)
        bench.mark("n", "x")
        for one in [(rules, store), seen]:
            self.assertEqual(one, (Rules([mark("a")]), Store(("n", "o"))))

    def test_marks_and_edges_of_every_place(self):
        bench = Bench(CHAIN, Store(tuple("bdf")))
        for node, word in [("d", "x"), ("b", "z"), ("b", "a"), ("f", "abcdefgh"), ("d", "w")]:
            bench.mark(node, word)
        self.assertEqual(bench.store.marked, (("b", "a"), ("b", "z"), ("d", "w"), ("d", "x"), ("f", "abcdefgh")))
        for row in [("d", "e", "b"), ("d", "e", "d"), ("b", "f", "f"), ("b", "e", "f")]:
            bench.edge(*row)
        self.assertEqual(bench.store.edges, (("b", "e", "f"), ("b", "f", "f"), ("d", "e", "b"), ("d", "e", "d")))
        self.assertEqual(len(bench), 9)

    def test_marks_and_edges_that_are_there_already(self):
        bench = Bench(CHAIN, ROW)
        for many in range(1, 4):
            bench.mark("p", "a")
            self.assert_is(bench, CHAIN, ROW, many)
        for many in range(4, 6):
            bench.edge("n", "e", "o")
            self.assert_is(bench, CHAIN, ROW, many)
        bench.mark("n", "b")
        bench.mark("n", "b")
        bench.undo()
        self.assertIn(("n", "b"), bench.store.marked)
        bench.undo()
        self.assert_is(bench, CHAIN, ROW, 5)
        bench.undo(5)
        self.assert_is(bench, CHAIN, ROW, 0)

    def test_rules_that_are_there_already_are_further_ones(self):
        bench = Bench(CHAIN, ROW)
        bench.end(CHAIN.ends[0])
        bench.step(STEP)
        self.assert_is(bench, Rules(CHAIN.ends * 2, [STEP] * 2), ROW, 2)

    def test_third_and_fourth_ends_and_steps(self):
        bench = Bench(CHAIN, ROW)
        for call, thing in [(bench.end, LEAF), (bench.step, STEP)]:
            call(thing)
            call(thing)
            seen = self.all_of(bench)
            self.assert_refused(BadRules, None, call, thing)
            self.assertEqual(self.all_of(bench), seen)
        self.assert_is(bench, Rules([mark("a"), LEAF, LEAF], [STEP] * 3), ROW, 4)
        # One that is wrong itself is told ahead of there being too many.
        self.assert_refused(BadRules, ("end", 3), bench.end, None)
        self.assert_refused(BadRules, ("step", 3), bench.step, LEAF)
        bench.undo(4)
        self.assert_refused(BadRules, ("end", 1), bench.end, STEP)
        self.assert_refused(BadRules, ("step", 1), bench.step, LEAF)

    def test_deeds_in_many_orders(self):
        for number in range(60):
            source = random.Random(number)
            maker = Maker(number, nodes=3)
            rules, store = maker.rules(), maker.store(5)
            bench, plain = Bench(rules, store), Plain(rules, store)
            for _ in range(60):
                self.one_deed(source, maker, bench, plain)
                self.assert_is(bench, plain.rules(), plain.store(), len(plain.rows) - 1)
            bench.undo(len(bench)) if len(bench) else None
            self.assert_is(bench, rules, store, 0)

    def one_deed(self, source, maker, bench, plain):
        nodes = plain.nodes
        part = source.randrange(5)
        if part == 4:
            many = source.randint(1, 4)
            if many < len(plain.rows):
                bench.undo(many) if many > 1 or source.random() < 0.5 else bench.undo()
                plain.undo(many)
            else:
                self.assert_refused(BadNumber, many, bench.undo, many)
        elif part > 1:
            row = (source.choice(nodes), source.choice("abc")) + (source.choice(nodes),) * (part - 2)
            (bench.edge if part == 3 else bench.mark)(*row)
            plain.do(part, row)
        else:
            thing = maker.body() if part else maker.tree()
            call = bench.step if part else bench.end
            if len(plain.rows[-1][part]) == 3:
                self.assert_refused(BadRules, None, call, thing)
            else:
                call(thing)
                plain.do(part, thing)

    def test_many_deeds_and_undo_of_all(self):
        bench = Bench(CHAIN, ROW)
        start = time.perf_counter()
        for number in range(3000):
            bench.mark("nop"[number % 3], "xyz"[number % 2])
        self.assertEqual(len(bench), 3000)
        bench.undo(2999)
        self.assert_is(bench, CHAIN, Store(ROW.nodes, [("n", "x"), ("p", "a")], ROW.edges), 1)
        bench.undo()
        self.assert_is(bench, CHAIN, ROW, 0)
        self.assertLess(time.perf_counter() - start, 10)


class UndoTest(BenchCase):

    def test_one_many_all_and_more(self):
        for deeds in range(6):
            for many in range(1, 8):
                bench = Bench(CHAIN, ROW)
                for word in "uvwxyz"[:deeds]:
                    bench.mark("n", word)
                seen = self.all_of(bench)
                if many > deeds:
                    self.assert_refused(BadNumber, many, bench.undo, many)
                    self.assertEqual(self.all_of(bench), seen)
                else:
                    bench.undo(many)
                    self.assertEqual(self.all_of(bench), seen[many:])

    def test_no_number(self):
        bench = Bench(CHAIN, ROW)
        self.assert_refused(BadNumber, 1, bench.undo)
        for word in "xyz":
            bench.mark("n", word)
        seen = self.all_of(bench)
        wrong = [0, -1, -2, -3, 4, 5, 10 ** 999, -10 ** 999, True, False, None, "1", "", b"1", (1,), [1], {}, 1j]
        wrong += [thing for thing in odd_values()
                  if not isinstance(thing, int) or isinstance(thing, bool) or not 1 <= thing <= 3]
        for thing in wrong:
            self.assert_refused(BadNumber, thing, bench.undo, thing)
            self.assertEqual(self.all_of(bench), seen)

    def test_refused_deeds_are_not_taken_back(self):
        bench = Bench(CHAIN, ROW)
        bench.mark("n", "x")
        for call, told in [(bench.mark, ("z", "x")), (bench.end, (None,)), (bench.edge, ("n", "E", "n"))]:
            with self.assertRaises(JoinError):
                call(*told)
        bench.undo()
        self.assert_is(bench, CHAIN, ROW, 0)


class RefusedTest(BenchCase):

    def setUp(self):
        self.bench = Bench(CHAIN, ROW)
        self.bench.mark("n", "x")
        self.bench.edge("n", "f", "p")
        self.bench.end(LEAF)
        self.seen = self.all_of(self.bench)

    def tearDown(self):
        self.assertEqual(self.all_of(self.bench), self.seen)

    def test_ends_and_steps(self):
        for thing in NO_TREES + odd_values():
            self.assert_refused(BadRules, ("end", 2), self.bench.end, thing)
        for thing in NO_BODIES + odd_values():
            self.assert_refused(BadRules, ("step", 1), self.bench.step, thing)

    def test_marks(self):
        for thing in NO_NODES + odd_values():
            self.assert_refused(BadNumber, thing, self.bench.mark, thing, "a")
            for other in [None, "A", Stop]:
                self.assert_refused(BadNumber, thing, self.bench.mark, thing, other)
        for thing in NO_WORDS + odd_values():
            self.assert_refused(BadNumber, thing, self.bench.mark, "n", thing)

    def test_edges(self):
        for thing in NO_NODES + odd_values():
            self.assert_refused(BadNumber, thing, self.bench.edge, thing, "e", "o")
            self.assert_refused(BadNumber, thing, self.bench.edge, thing, "E", "o")
            self.assert_refused(BadNumber, thing, self.bench.edge, thing, "E", "z")
            self.assert_refused(BadNumber, thing, self.bench.edge, thing, "e", None)
            self.assert_refused(BadNumber, thing, self.bench.edge, "o", "e", thing)
        for thing in NO_WORDS + odd_values():
            self.assert_refused(BadNumber, thing, self.bench.edge, "n", thing, "o")
            self.assert_refused(BadNumber, thing, self.bench.edge, "n", thing, "z")

    def test_great_and_deep_values(self):
        deep = ("n",)
        for _ in range(440):
            deep = (deep,)
        for thing in [deep, [deep] * 50, ("n",) * 30000, "n" * 30000, {("n",): deep}, chain(130)]:
            for call in [lambda: self.bench.mark(thing, "a"), lambda: self.bench.mark("n", thing),
                         lambda: self.bench.edge(thing, "e", "n"), lambda: self.bench.edge("n", thing, "n"),
                         lambda: self.bench.edge("n", "e", thing), lambda: self.bench.undo(thing)]:
                self.assert_refused(BadNumber, thing, call)
            self.assert_refused(BadRules, ("end", 2), self.bench.end, thing)
            self.assert_refused(BadRules, ("step", 1), self.bench.step, thing)


class EqualTest(BenchCase):

    def test_by_rules_and_stores_alone(self):
        rows = [(CHAIN, ROW), (WIDE, ROW), (CHAIN, EMPTY), (WIDE, EMPTY)]
        for one, other in itertools.product(rows, repeat=2):
            self.assertIs(Bench(*one) == Bench(*other), one == other)
            self.assertIs(Bench(*one) != Bench(*other), one != other)

    def test_what_came_to_the_same_in_other_ways(self):
        one, other = Bench(Rules([mark("a")]), EMPTY), Bench(CHAIN, Store(("n", "o"), [("o", "a")]))
        one.step(STEP)
        self.assertIs(one == other, False)
        one.mark("o", "a")
        self.assertIs(one == other, True)
        one.mark("o", "a")
        self.assertIs(one == other, True)
        self.assertIs(one != other, False)
        other.edge("n", "e", "n")
        self.assertIs(one != other, True)
        other.undo()
        self.assertEqual((one == other, len(one), len(other)), (True, 3, 0))
        with one.trial():
            one.undo(2)
            self.assertIs(one == other, False)
        self.assertIs(one == other, True)

    def test_marks_in_another_order(self):
        one, other = Bench(CHAIN, EMPTY), Bench(CHAIN, EMPTY)
        for word in "abc":
            one.mark("n", word)
        for word in "cab":
            other.mark("n", word)
        self.assertIs(one == other, True)
        one.end(LEAF), one.end(mark("b"))
        other.end(mark("b")), other.end(LEAF)
        self.assertIs(one == other, False)

    def test_other_values(self):
        bench = Bench(CHAIN, ROW)
        for value in odd_values() + [CHAIN, ROW, (CHAIN, ROW), Bench, bench.trial(), len(bench)]:
            self.assertIs(bench == value, False)
            self.assertIs(bench != value, True)
        for value in [CHAIN, ROW, (CHAIN, ROW), 0, None, [], "a"]:
            self.assertIs(value == bench, False)
            self.assertIs(value != bench, True)
        self.assertIs(bench in [CHAIN, ROW, Bench(CHAIN, ROW)], True)

    def test_other_operators(self):
        bench = Bench(CHAIN, ROW)
        values = [Bench(CHAIN, ROW), CHAIN, ROW, 0, 1, None, True, "a", "", b"a", (), [], [1], {}, {"a"}, object()]
        for sign, value in itertools.product(SIGNS, values):
            with self.assertRaises(TypeError):
                sign(bench, value)
            with self.assertRaises(TypeError):
                sign(value, bench)
        for sign in [operator.neg, operator.pos, operator.invert, abs]:
            with self.assertRaises(TypeError):
                sign(bench)
        self.assert_is(bench, CHAIN, ROW, 0)

    def test_iteration_and_in(self):
        bench = Bench(CHAIN, ROW)
        bench.mark("n", "x")
        for value in ["n", CHAIN, ROW, None, bench, 0]:
            with self.assertRaises(TypeError):
                value in bench
        for call in [iter, list, tuple, sorted, reversed, set, sum, max, enumerate, lambda bench: bench[0]]:
            with self.assertRaises(TypeError):
                call(bench)

    def test_methods_stand_in_the_class(self):
        for name in ["__init__", "__eq__", "__len__", "rules", "store", "picked", "end", "step", "mark", "edge", "undo",
                     "trial"]:
            self.assertIn(name, vars(Bench))
        for name in ["rules", "store"]:
            self.assertIsInstance(vars(Bench)[name], property)
            with self.assertRaises(AttributeError):
                setattr(Bench(CHAIN, ROW), name, None)


class TrialTest(BenchCase):

    def made(self):
        bench = Bench(CHAIN, ROW)
        bench.mark("n", "x")
        bench.end(LEAF)
        return bench

    def some_deeds(self, bench):
        bench.mark("o", "y")
        bench.step(STEP)
        bench.edge("o", "f", "n")
        bench.undo()

    def test_the_block_gets_the_bench_itself(self):
        bench = self.made()
        with bench.trial() as same:
            self.assertIs(same, bench)

    def test_a_trial_that_ends_by_itself(self):
        bench = self.made()
        seen = self.all_of(bench)
        with bench.trial() as same:
            self.some_deeds(same)
            self.assertEqual(len(bench), 4)
            self.assertIn(("o", "y"), bench.store.marked)
        self.assertEqual(self.all_of(bench), seen)
        with bench.trial():
            pass
        self.assertEqual(self.all_of(bench), seen)

    def test_a_trial_that_ends_by_an_exception(self):
        for error in [Stop("a"), Halt("b"), BadNumber(1), KeyError("c"), StopIteration(), GeneratorExit()]:
            bench = self.made()
            seen = self.all_of(bench)
            with self.assertRaises(error.__class__) as caught:
                with bench.trial():
                    self.some_deeds(bench)
                    raise error
            self.assertIs(caught.exception, error)
            self.assertEqual(self.all_of(bench), seen)

    def test_a_trial_that_ends_by_a_refusal(self):
        bench = self.made()
        seen = self.all_of(bench)
        for call in [lambda: bench.undo(99), lambda: bench.mark("z", "a"), lambda: bench.end(None)]:
            with self.assertRaises(JoinError):
                with bench.trial():
                    self.some_deeds(bench)
                    call()
            self.assertEqual(self.all_of(bench), seen)

    def test_a_trial_that_ends_by_return_break_and_continue(self):
        bench = self.made()
        seen = self.all_of(bench)

        def leave():
            with bench.trial():
                self.some_deeds(bench)
                return len(bench)

        self.assertEqual(leave(), 4)
        for way in range(2):
            for _ in range(2):
                with bench.trial():
                    self.some_deeds(bench)
                    if way:
                        break
                    continue
            self.assertEqual(self.all_of(bench), seen)

    def test_undo_of_what_was_ahead_of_the_trial(self):
        bench = self.made()
        seen = self.all_of(bench)
        with bench.trial():
            bench.undo()
            self.assertEqual(self.all_of(bench), seen[1:])
            bench.mark("p", "z")
            bench.undo(2)
            self.assert_is(bench, CHAIN, ROW, 0)
            self.assert_refused(BadNumber, 1, bench.undo)
            self.some_deeds(bench)
            self.assertEqual(len(bench), 2)
        self.assertEqual(self.all_of(bench), seen)

    def test_trials_in_one_another(self):
        bench = self.made()
        seen = [self.all_of(bench)]
        with bench.trial() as one:
            one.mark("o", "u")
            seen.append(self.all_of(bench))
            with bench.trial() as other:
                self.assertIs(other, one)
                other.undo(3)
                other.step(STEP)
                seen.append(self.all_of(bench))
                with self.assertRaises(Stop):
                    with other.trial() as third:
                        third.undo()
                        self.some_deeds(third)
                        raise Stop
                self.assertEqual(self.all_of(bench), seen.pop())
            self.assertEqual(self.all_of(bench), seen.pop())
            bench.undo(2)
        self.assertEqual(self.all_of(bench), seen.pop())

    def test_deep_trials(self):
        bench = self.made()
        for word in "abcdefgh" * 20:
            bench.mark("o", word)
        seen = self.all_of(bench)

        def deeper(left):
            if left == 0:
                raise Stop
            with bench.trial():
                bench.mark("p", "xyz"[left % 3])
                bench.undo(1 + left % 2)
                deeper(left - 1)

        with self.assertRaises(Stop):
            deeper(100)
        self.assertEqual(self.all_of(bench), seen)

    def test_trials_of_two_benches(self):
        one, other = self.made(), Bench(WIDE, EMPTY)
        seen = self.all_of(one), self.all_of(other)
        with one.trial(), other.trial():
            one.undo()
            other.mark("n", "x")
            self.assertEqual((len(one), len(other)), (1, 1))
        self.assertEqual((self.all_of(one), self.all_of(other)), seen)

    def test_deeds_after_a_trial(self):
        bench = self.made()
        with bench.trial():
            self.some_deeds(bench)
        bench.mark("o", "q")
        self.assertEqual(len(bench), 3)
        bench.undo(3)
        self.assert_is(bench, CHAIN, ROW, 0)

    def test_trials_in_many_orders(self):
        for number in range(40):
            source = random.Random(number)
            maker = Maker(number, nodes=3)
            rules, store = maker.rules(), maker.store(5)
            self.trials(DeedsTest(), source, maker, Bench(rules, store), Plain(rules, store), 3)

    def trials(self, deeds, source, maker, bench, plain, left):
        for _ in range(6):
            if left and source.random() < 0.4:
                rows = list(plain.rows)
                try:
                    with bench.trial():
                        self.trials(deeds, source, maker, bench, plain, left - 1)
                        if source.random() < 0.5:
                            raise Stop
                except Stop:
                    pass
                plain.rows = rows
            else:
                deeds.one_deed(source, maker, bench, plain)
            self.assert_is(bench, plain.rules(), plain.store(), len(plain.rows) - 1)


class TriedTest(BenchCase):

    def test_what_the_function_returns_itself(self):
        bench = Bench(CHAIN, ROW)
        for thing in odd_values() + [bench, [bench], CHAIN]:
            self.assertIs(tried(bench, lambda same: thing), thing)
        self.assertIs(tried(bench, lambda same: same), bench)
        self.assertEqual(tried(bench, Bench.picked), ("n", "o", "p"))
        self.assertEqual(tried(bench, len), 0)
        self.assertIsNone(tried(bench, lambda same: None))

    def test_it_is_a_trial(self):
        bench = Bench(CHAIN, ROW)
        bench.mark("n", "x")
        seen = self.all_of(bench)

        def lead(same):
            same.undo()
            same.edge("p", "e", "p")
            same.end(LEAF)
            return same.rules, same.store, len(same)

        told = tried(bench, lead)
        self.assertEqual(told, (CHAIN.with_end(LEAF), Store(ROW.nodes, ROW.marked, ROW.edges + (("p", "e", "p"),)), 2))
        self.assertEqual(self.all_of(bench), seen)

    def test_functions_that_raise(self):
        bench = Bench(CHAIN, ROW)
        bench.mark("n", "x")
        seen = self.all_of(bench)
        for error in [Stop("a"), Halt("b"), BadNumber(1), BadRules(None), TypeError("c"), StopIteration()]:

            def lead(same):
                same.undo()
                same.step(STEP)
                raise error

            with self.assertRaises(error.__class__) as caught:
                tried(bench, lead)
            self.assertIs(caught.exception, error)
            self.assertEqual(self.all_of(bench), seen)

    def test_in_one_another(self):
        bench = Bench(CHAIN, ROW)

        def lead(same):
            same.mark("n", "x")
            return len(same), tried(same, lambda other: (other.mark("n", "y"), len(other))), len(same)

        self.assertEqual(tried(bench, lead), (1, (None, 2), 1))
        self.assert_is(bench, CHAIN, ROW, 0)


class CallsTest(BenchCase):

    def test_names_of_parameters(self):
        bench = Bench(store=ROW, rules=CHAIN)
        bench.end(tree=LEAF)
        bench.step(body=STEP)
        bench.mark(word="x", node="n")
        bench.edge(other="n", node="p", word="f")
        self.assert_is(bench, Rules([mark("a"), LEAF], [STEP] * 2),
                       Store(ROW.nodes, ROW.marked + (("n", "x"),), ROW.edges + (("p", "f", "n"),)), 4)
        bench.undo(many=3)
        self.assertEqual(len(bench), 1)
        bench.undo()
        self.assertIs(tried(function=lambda same: same, bench=bench), bench)

    def test_nothing_hangs_on_other_benches(self):
        one, other = Bench(CHAIN, ROW), Bench(CHAIN, ROW)
        one.mark("n", "x")
        one.end(LEAF)
        self.assert_is(other, CHAIN, ROW, 0)
        self.assertEqual((len(one), len(other)), (2, 0))

    def test_no_call_takes_long(self):
        start = time.perf_counter()
        words = [one + other for one in "abcdefghij" for other in "abcdefghij"]
        nodes = tuple("abcdefghijkl")
        edges = [(node, word, other) for word in words[:60] for node in nodes for other in nodes]
        bench = Bench(great_rules(), Store(nodes, [(node, word) for node in nodes for word in words], edges))
        for word in words[:50]:
            bench.edge("a", word + "x", "l")
            bench.mark("b", word + "x")
        bench.picked()
        for _ in range(100):
            with bench.trial():
                bench.undo(50)
        bench.undo(100)
        self.assertLess(time.perf_counter() - start, 10)


if __name__ == "__main__":
    unittest.main()
