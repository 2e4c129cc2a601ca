"""What the document promises over the whole program, asked of all modules together."""

import copy
import importlib
import inspect
import itertools
import operator
import random
import time
import unittest

from made import CHAIN, MIXED, STEP, WIDE, Maker, great_rules, mark, under
from onlyjoins import answers, compare, errors, second, stores, texts, trees, unfold, views
from onlyjoins.bench import Bench, tried
from onlyjoins.errors import (BadNumber, BadPaper, BadRules, BadStore, BadText, BadTree, BadUnfolding, JoinError,
                              Needed, TooMany)
from onlyjoins.rules import Rules
from onlyjoins.stores import Store
from shapes import CALL, LEAF, chain, odd_values

ROW = Store(("n", "o", "p"), [("p", "a")], [("n", "e", "o"), ("o", "e", "p")])
TREE = ((), (("e", (("a",), ())), ("f", LEAF)))
# The interface: the parameters of each name, and where they begin to have defaults.
PARAMETERS = {
    "trees": {"is_tree": "thing", "is_body": "thing", "fits_root": "tree pattern"},
    "rules": {"Rules": "ends steps=", "Rules.with_end": "self tree", "Rules.with_step": "self body",
              "Rules.without_end": "self number", "Rules.without_step": "self number"},
    "unfold": {"is_unfolding": "rules thing", "tree_of": "rules unfolding", "depth_of": "rules unfolding",
               "earliest": "rules tree", "fewest": "rules tree", "shorter": "rules unfolding"},
    "views": {"gaps": "rules", "view": "rules unfolding"},
    "answers": {"never_needed": "rules", "verdict": "rules", "check": "rules paper", "own_unfoldings": "rules",
                "least_steps": "rules"},
    "stores": {"Store": "nodes marked= edges=", "fits": "store node tree", "chosen": "rules store",
               "reason": "rules store node", "store_of": "tree"},
    "compare": {"contained": "one other", "parting": "one other", "alike": "one other", "needless": "rules",
                "joins": "rules"},
    "second": {"never_needed_too": "rules most"},
    "bench": {"Bench": "rules store", "Bench.picked": "self", "Bench.end": "self tree", "Bench.step": "self body",
              "Bench.mark": "self node word", "Bench.edge": "self node word other", "Bench.undo": "self many=",
              "Bench.trial": "self", "tried": "bench function"},
    "texts": {"tree_text": "tree", "read_tree": "text", "rules_text": "rules", "read_rules": "text"},
    "errors": {"BadTree": "value", "BadRules": "place", "BadStore": "place", "BadUnfolding": "value",
               "BadNumber": "value", "BadPaper": "place", "BadText": "line", "Needed": "paper", "TooMany": "most"},
}


def asked(rules, other, store, tree, thing):
    """Calls of all functions, by their names, with valid arguments and with a thing of any kind."""
    one = (0,)
    calls = [(trees.is_tree, thing), (trees.is_body, thing), (trees.fits_root, tree, other.ends[0]),
             (unfold.is_unfolding, rules, thing), (unfold.tree_of, rules, one), (unfold.tree_of, rules, thing),
             (unfold.depth_of, rules, thing), (unfold.earliest, rules, tree), (unfold.fewest, rules, tree),
             (unfold.shorter, rules, one), (unfold.shorter, rules, thing), (views.gaps, rules),
             (views.view, rules, one), (views.view, rules, thing), (answers.never_needed, rules),
             (answers.verdict, rules),
             (answers.check, rules, thing), (answers.own_unfoldings, rules), (answers.least_steps, rules),
             (stores.fits, store, "n", tree), (stores.fits, store, thing, tree), (stores.chosen, rules, store),
             (stores.reason, rules, store, "n"), (stores.reason, rules, store, thing), (stores.store_of, tree),
             (compare.contained, rules, other), (compare.parting, rules, other), (compare.alike, rules, other),
             (compare.needless, rules), (compare.joins, rules), (second.never_needed_too, rules, 2),
             (second.never_needed_too, rules, thing), (texts.tree_text, tree), (texts.tree_text, thing),
             (texts.read_tree, "-(e>a)"), (texts.read_tree, thing), (texts.rules_text, rules),
             (texts.read_rules, "end a"), (texts.read_rules, thing), (Rules, thing), (Rules, [LEAF], thing),
             (Store, thing), (Store, ("a",), thing), (Store, ("a",), (), thing), (rules.with_end, thing),
             (rules.with_step, thing), (rules.without_end, thing), (rules.without_step, thing),
             (led, rules, store, thing)]
    return calls


def led(rules, store, thing):
    """What a bench tells that is led with a thing of any kind."""
    held = Bench(rules, store)
    held.mark("n", "z")
    told = [answer(held.end, thing), answer(held.step, thing), answer(held.mark, thing, "a"),
            answer(held.mark, "n", thing), answer(held.edge, thing, "a", "n"), answer(held.edge, "n", thing, "n"),
            answer(held.edge, "n", "a", thing), answer(held.undo, thing), tried(held, Bench.picked), held.picked()]
    return told, len(held), told_value(held.rules), told_value(held.store)


def answer(function, *told):
    """What a call tells or raises, as plain values that can be held against each other."""
    try:
        return "told", told_value(function(*told))
    except (JoinError, Needed, TooMany) as error:
        return error.__class__.__name__, [(name, id(value) if name == "value" else value)
                                          for name, value in vars(error).items()]


def told_value(value):
    if isinstance(value, (Rules, Store)):
        return vars(value)
    return value


def great_things():
    """Values that the package told, great and deep, as they are and with something otherwise in them."""
    tall = Rules([mark("a")], [under(under(STEP))])
    one = (0,) * 43 + (0,)
    tree = unfold.tree_of(tall, one)
    wide = unfold.tree_of(great_rules(), (0, 1) * 43 + (1,))
    things = [one, tree, wide, views.view(great_rules(), (0, 1) * 43 + (1,)), views.gaps(great_rules()),
              answers.verdict(WIDE), answers.verdict(CHAIN), answers.own_unfoldings(WIDE),
              texts.rules_text(great_rules())]
    for bottom in [None, True, "call", [], CALL, ROW, CHAIN]:
        things.append(chain(129, bottom=bottom))
        things.append((tree, bottom))
        things.append(under(tree)[:1] + ((("e", bottom), ("e", wide)),))
    things += [(0,) * 30000, ((),) * 29999, ((0,),) * 14999, [[0]] * 14000, {number: () for number in range(9999)}]
    deep = ()
    for number in range(440):
        deep = (deep,) if number % 2 else [deep]
    return things + [deep, (deep,) * 3, "a" * 30000, "(" * 30000, "-(e>" * 7500, "\n" * 30000]


class InterfaceTest(unittest.TestCase):

    def test_names_of_parameters_and_defaults(self):
        for module, names in PARAMETERS.items():
            for name, wanted in names.items():
                found = importlib.import_module("onlyjoins." + module)
                for part in name.split("."):
                    found = getattr(found, part)
                told = [one.name + "=" * (one.default is not one.empty)
                        for one in inspect.signature(found).parameters.values()
                        if one.kind == one.POSITIONAL_OR_KEYWORD]
                self.assertEqual(told, wanted.split(), name)
                self.assertEqual(len(told), len(inspect.signature(found).parameters), name)

    def test_parameters_in_any_order(self):
        rows = [("nodes", ("a",)), ("marked", [("a", "x")]), ("edges", [("a", "e", "a")])]
        for order in itertools.permutations(rows):
            self.assertEqual(Store(**dict(order)), Store(("a",), [("a", "x")], [("a", "e", "a")]))
        for order in itertools.permutations([("node", "n"), ("word", "f"), ("other", "p")]):
            held = Bench(CHAIN, ROW)
            held.edge(**dict(order))
            self.assertIn(("n", "f", "p"), held.store.edges)
        for order in itertools.permutations([("store", ROW), ("node", "p"), ("rules", CHAIN)]):
            self.assertEqual(stores.reason(**dict(order)), (0,))
        with self.assertRaises(TypeError):
            compare.contained(one=CHAIN, two=WIDE)

    def test_the_names_stand_where_they_are_listed(self):
        for module, names in PARAMETERS.items():
            found = importlib.import_module("onlyjoins." + module)
            for name in names:
                if "." not in name:
                    self.assertEqual(getattr(found, name).__module__, "onlyjoins." + module, name)
        self.assertEqual(errors.JoinError.__module__, "onlyjoins.errors")


class WholeTest(unittest.TestCase):

    def test_answers_do_not_hang_on_what_was_asked_before(self):
        things = odd_values()[:30] + [(0,), LEAF, STEP, "end a", "n", 1, answers.verdict(WIDE)]
        calls = [call for rules, other in [(CHAIN, WIDE), (WIDE, CHAIN), (MIXED, CHAIN)] for thing in things
                 for call in asked(rules, other, ROW, TREE, thing)]
        first = [answer(*call) for call in calls]
        for number in range(2):
            places = list(range(len(calls)))
            random.Random(number).shuffle(places)
            for place in places:
                self.assertEqual(answer(*calls[place]), first[place], calls[place][0])

    def test_what_was_passed_stays_as_it_was(self):
        lists = [[], [LEAF], [STEP], ["a"], [("a", "x")], [("a", "e", "a")], [[0]], {"a": 1}, [(0,), [1]], [None]]
        before = copy.deepcopy(lists)
        held = [copy.deepcopy(vars(one)) for one in (CHAIN, WIDE, MIXED, ROW)]
        for thing in lists:
            for rules in [CHAIN, WIDE, MIXED]:
                for call in asked(rules, WIDE, ROW, TREE, thing):
                    answer(*call)
        self.assertEqual(lists, before)
        self.assertEqual([vars(one) for one in (CHAIN, WIDE, MIXED, ROW)], held)

    def test_every_kind_of_thing_is_told_or_refused(self):
        for thing in odd_values() + great_things():
            for call in asked(WIDE, CHAIN, ROW, TREE, thing):
                kind, _ = answer(*call)
                self.assertIn(kind, ["told", "BadTree", "BadRules", "BadStore", "BadUnfolding", "BadNumber", "BadPaper",
                                     "BadText", "Needed", "TooMany"])

    def test_great_things_take_not_long(self):
        start = time.perf_counter()
        for thing in great_things():
            for call in asked(great_rules(), MIXED, ROW, TREE, thing):
                answer(*call)
        self.assertLess(time.perf_counter() - start, 30)

    def test_a_thing_that_is_refused_is_told_itself(self):
        for thing in great_things() + odd_values():
            for error, field, function, told in [
                    (BadTree, "value", texts.tree_text, (thing,)),
                    (BadUnfolding, "value", views.view, (Rules([LEAF]), thing)),
                    (BadNumber, "value", stores.fits, (ROW, thing, LEAF)),
                    (BadNumber, "value", second.never_needed_too, (CHAIN, thing)),
                    (BadNumber, "value", CHAIN.without_step, (thing,)),
                    (BadNumber, "value", Bench(CHAIN, ROW).undo, (thing,))]:
                try:
                    function(*told)
                except error as caught:
                    self.assertIs(getattr(caught, field), thing)
                    self.assertIsInstance(caught, JoinError)

    def test_lists_that_are_changed_later(self):
        ends, steps, marked, edges = [mark("a")], [STEP], [("p", "a")], [("n", "e", "o")]
        rules, store = Rules(ends, steps), Store(("n", "o", "p"), marked, edges)
        held = Bench(rules, store)
        for rows in [ends, steps, marked, edges]:
            rows.clear()
        self.assertEqual((held.rules, held.store), (Rules([mark("a")], [STEP]),
                                                   Store(("n", "o", "p"), [("p", "a")], [("n", "e", "o")])))

    def test_calls_that_name_no_result_return_none(self):
        held = Bench(CHAIN, ROW)
        for call, told in [(held.end, (LEAF,)), (held.step, (STEP,)), (held.mark, ("n", "x")),
                           (held.edge, ("n", "f", "n")), (held.undo, ()), (held.undo, (2,))]:
            self.assertIsNone(call(*told))

    def test_whether_something_is_so_is_told_by_true_or_false(self):
        for value in [trees.is_tree(LEAF), trees.is_body(LEAF), trees.fits_root(LEAF, LEAF),
                      unfold.is_unfolding(CHAIN, (0,)), unfold.is_unfolding(CHAIN, ()), answers.never_needed(WIDE),
                      stores.fits(ROW, "n", LEAF), compare.contained(CHAIN, WIDE), compare.contained(WIDE, CHAIN),
                      compare.alike(CHAIN, WIDE), compare.alike(CHAIN, CHAIN), second.never_needed_too(WIDE, 1),
                      second.never_needed_too(CHAIN, 1), second.never_needed_too(Rules([LEAF]), 6), CHAIN == WIDE,
                      CHAIN != WIDE, ROW == ROW, ROW != 1, Bench(CHAIN, ROW) == Bench(CHAIN, ROW),
                      Bench(CHAIN, ROW) != 1]:
            self.assertIsInstance(value, bool)
        for value in views.view(WIDE, (0,))[2]:
            self.assertTrue(value is None or isinstance(value, (bool, int)))

    def test_operators_between_rules_stores_and_benches(self):
        values = [CHAIN, ROW, Bench(CHAIN, ROW)]
        signs = [operator.lt, operator.le, operator.gt, operator.ge, operator.add, operator.sub, operator.mul,
                 operator.floordiv, operator.truediv, operator.mod, operator.pow, operator.lshift, operator.rshift,
                 operator.and_, operator.or_, operator.xor, operator.matmul, divmod, operator.contains]
        for sign, (one, other) in itertools.product(signs, itertools.product(values, repeat=2)):
            with self.assertRaises(TypeError):
                sign(one, other)
        for one, other in itertools.product(values, repeat=2):
            self.assertIs(one == other, one is other)
            self.assertIs(one != other, one is not other)
        for one in values:
            with self.assertRaises(TypeError):
                list(one)

    def test_rules_and_stores_of_many_kinds_in_a_bench(self):
        for number in range(60):
            maker = Maker(number)
            rules, store = maker.rules(), maker.store()
            held = Bench(rules, store)
            self.assertEqual(held.picked(), stores.chosen(rules, store))
            self.assertEqual(texts.read_rules(texts.rules_text(held.rules)), rules)


class RefusalsTest(unittest.TestCase):
    """Which exception comes first, where several apply."""

    def assert_first(self, error, field, value, function, *told):
        with self.assertRaises(error) as caught:
            function(*told)
        self.assertEqual(getattr(caught.exception, field), value)

    def test_of_several_arguments_the_first_one(self):
        held = Bench(CHAIN, ROW)
        self.assert_first(BadNumber, "value", "z", held.mark, "z", "Z")
        self.assert_first(BadNumber, "value", "z", held.edge, "z", "Z", "y")
        self.assert_first(BadNumber, "value", "Z", held.edge, "n", "Z", "y")
        self.assert_first(BadNumber, "value", "y", held.edge, "n", "z", "y")
        self.assert_first(BadStore, "place", "nodes", Store, (), None, None)
        self.assert_first(BadStore, "place", "marked", Store, ("a",), None, None)
        self.assert_first(BadRules, "place", None, Rules, [None], None)
        self.assert_first(BadRules, "place", ("end", 0), Rules, [None], [None])
        self.assert_first(BadPaper, "place", "own", answers.check, WIDE, ("never", None, None))
        self.assert_first(BadPaper, "place", "loop", answers.check, CHAIN, ("needed", None, None))
        self.assert_first(BadText, "line", None, texts.read_rules, None)
        self.assert_first(BadText, "line", 1, texts.read_rules, "step a\nend A")
        self.assertEqual((len(held), held.rules, held.store), (0, CHAIN, ROW))


if __name__ == "__main__":
    unittest.main()
