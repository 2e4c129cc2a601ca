"""Stores: what they refuse and keep, which nodes fit and are chosen, and why; trees as stores."""

import copy
import itertools
import operator
import time
import unittest

from made import CHAIN, MIXED, STEP, WIDE, Maker, great_rules, many_rules, mark, under
from onlyjoins.errors import BadNumber, BadStore, JoinError, TooMany
from onlyjoins.rules import Rules
from onlyjoins.stores import Store, chosen, fits, reason, store_of
from onlyjoins.trees import fits_root
from onlyjoins.unfold import fewest, is_unfolding, tree_of
from plain import all_tree, fitted, of_store, plain_chosen, plain_fits
from shapes import CALL, LEAF, built, chain, odd_values, shapes

TWELVE = tuple("abcdefghijkl")
ROW = Store(("n", "o", "p"), [("p", "a")], [("n", "e", "o"), ("o", "e", "p")])
OTHER_NODES = ["m", "q", "nn", "N", "", "n ", "a", ("n",), ["n"], b"n", 0, -1, 10 ** 999, True, False, None]


class StoreTest(unittest.TestCase):

    def assert_bad(self, place, *told):
        with self.assertRaises(BadStore) as caught:
            Store(*told)
        self.assertEqual(caught.exception.place, place)

    def test_fields(self):
        store = Store(("a", "b"), [("b", "z"), ("a", "z"), ("b", "y")], (("b", "e", "a"), ("a", "f", "a")))
        self.assertEqual(store.nodes, ("a", "b"))
        self.assertEqual(store.marked, (("a", "z"), ("b", "y"), ("b", "z")))
        self.assertEqual(store.edges, (("a", "f", "a"), ("b", "e", "a")))
        self.assertEqual(vars(store), {"nodes": store.nodes, "marked": store.marked, "edges": store.edges})
        for field in [store.nodes, store.marked, store.edges]:
            self.assertIsInstance(field, tuple)

    def test_marked_and_edges_may_be_left_out(self):
        self.assertEqual((Store(("a",)).marked, Store(("a",)).edges), ((), ()))
        self.assertEqual(Store(("a",), edges=[("a", "e", "a")]).edges, (("a", "e", "a"),))
        self.assertEqual(Store(edges=[], nodes=("a",), marked=[]), Store(("a",)))

    def test_marked_and_edges_in_any_order_as_lists_and_tuples(self):
        marked = [("a", "x"), ("a", "y"), ("b", "x")]
        edges = [("a", "e", "a"), ("a", "e", "b"), ("a", "f", "a")]
        wanted = Store(("a", "b"), marked, edges)
        for one, other in itertools.product(itertools.permutations(marked), itertools.permutations(edges)):
            for store in [Store(("a", "b"), one, other), Store(("a", "b"), list(one), list(other))]:
                self.assertEqual(store, wanted)
                self.assertEqual((store.marked, store.edges), (tuple(marked), tuple(edges)))

    def test_numbers_of_nodes(self):
        for many in range(1, 13):
            self.assertEqual(Store(TWELVE[:many]).nodes, TWELVE[:many])
        self.assert_bad("nodes", ())
        self.assert_bad("nodes", TWELVE + ("m",))
        self.assert_bad("nodes", tuple("abcdefghijklmnopqrstuvwxyz"))

    def test_wrong_nodes(self):
        for nodes in [("b", "a"), ("a", "a"), ("a", "b", "b"), ("a", "c", "b"), ["a"], ["a", "b"], "a", "ab", {"a": 1},
                      {"a"}, ("A",), ("",), ("abcdefghi",), ("a", "b1"), (1,), (True,), (None,), (b"a",), (("a",),),
                      ("a", None), (None, "a"), Store(("a",)), ("a",) * 12]:
            self.assert_bad("nodes", nodes)
            self.assert_bad("nodes", nodes, None, None)
        for nodes in odd_values():
            self.assert_bad("nodes", nodes)
            self.assert_bad("nodes", (nodes,))
            self.assert_bad("nodes", ("a", nodes))

    def test_wrong_marked(self):
        wrong = [(("a", "x"), ("a", "x")), (("a", "x"), ("b", "x"), ("a", "x")), (("c", "x"),), (("x", "a"),),
                 (["a", "x"],), (("a",),), (("a", "x", "x"),), (("a", "X"),), (("a", ""),), (("a", "abcdefghi"),),
                 (("a", 1),), (("a", None),), ((None, "x"),), ((0, "x"),), ((True, "x"),), ("ax",), ("a", "x"),
                 ((("a", "x"),),), ((b"a", "x"),), (("a", b"x"),), (("a", ("x",)),), (("A", "x"),)]
        for marked in wrong:
            self.assert_bad("marked", ("a", "b"), marked)
            self.assert_bad("marked", ("a", "b"), list(marked), None)
            self.assert_bad("marked", ("a", "b"), [("a", "z")] + list(marked))

    def test_wrong_edges(self):
        wrong = [(("a", "e", "b"), ("a", "e", "b")), (("a", "e", "c"),), (("c", "e", "a"),), (["a", "e", "b"],),
                 (("a", "e"),), (("a", "b"),), (("a", "e", "b", "e"),), (("a", "E", "b"),), (("a", "", "b"),),
                 (("a", "abcdefghi", "b"),), (("a", 1, "b"),), (("a", None, "b"),), (("a", "e", None),),
                 ((None, "e", "a"),), (("a", "e", 0),), ((True, "e", "b"),), ("aeb",), (("e", "a", "b"),),
                 (("a", "b", "e"),), ((b"a", "e", "b"),), (("a", "e", ("b",)),), (("a", "e", ""),)]
        for edges in wrong:
            self.assert_bad("edges", ("a", "b"), (), edges)
            self.assert_bad("edges", ("a", "b"), [("a", "z")], list(edges))
            self.assert_bad("edges", ("a", "b"), [], [("a", "z", "a")] + list(edges))

    def test_odd_values_in_each_place(self):
        for thing in odd_values():
            if not isinstance(thing, (list, tuple)) or len(thing):
                self.assert_bad("marked", ("a",), thing)
                self.assert_bad("edges", ("a",), (), thing)
            self.assert_bad("marked", ("a",), [thing])
            self.assert_bad("marked", ("a",), [("a", "x"), thing])
            self.assert_bad("marked", ("a",), [(thing, "x")])
            self.assert_bad("marked", ("a",), [("a", thing)])
            self.assert_bad("edges", ("a",), [], [thing])
            self.assert_bad("edges", ("a",), [], [("a", "e", "a"), thing])
            self.assert_bad("edges", ("a",), [], [(thing, "e", "a")])
            self.assert_bad("edges", ("a",), [], [("a", thing, "a")])
            self.assert_bad("edges", ("a",), [], [("a", "e", thing)])
        for thing in [{("a", "x"): 1}, {("a", "x")}, iter([("a", "x")]), "ax", range(0), Store(("a",))]:
            self.assert_bad("marked", ("a",), thing)
            self.assert_bad("edges", ("a",), (), thing)

    def test_the_first_wrong_part_is_told(self):
        self.assert_bad("nodes", (), None, None)
        self.assert_bad("nodes", ["a"], [("a", "X")], [("a",)])
        self.assert_bad("marked", ("a",), None, None)
        self.assert_bad("marked", ("a",), [("b", "x")], [("b", "e", "b")])
        self.assert_bad("edges", ("a",), (), None)
        with self.assertRaises(JoinError):
            Store(None)

    def test_great_values(self):
        words = [one + other + more for one in "abcdefghij" for other in "abcdefghij" for more in "abcdefg"]
        marked = [(node, word) for node in TWELVE for word in words]
        edges = [(node, word, other) for node in TWELVE for other in TWELVE for word in words[:50]]
        store = Store(TWELVE, marked[::-1], edges[::-1])
        self.assertEqual((store.marked, store.edges), (tuple(sorted(marked)), tuple(sorted(edges))))
        self.assert_bad("marked", TWELVE, marked + marked[:1])
        self.assert_bad("edges", TWELVE, marked, edges + edges[-1:])
        deep = ()
        for _ in range(400):
            deep = (deep,)
        self.assert_bad("nodes", deep)
        self.assert_bad("marked", ("a",), [deep])
        self.assert_bad("edges", ("a",), [], [("a", "e", deep)])

    def test_lists_that_are_changed_later(self):
        marked, edges = [("a", "x")], [("a", "e", "a")]
        store = Store(("a", "b"), marked, edges)
        before = copy.deepcopy(vars(store))
        marked.append(("b", "x"))
        edges.clear()
        self.assertEqual(vars(store), before)
        self.assertEqual((marked, edges), ([("a", "x"), ("b", "x")], []))

    def test_lists_that_were_passed_stay_as_they_were(self):
        marked, edges = [("b", "x"), ("a", "x")], [("b", "e", "a"), ("a", "e", "a")]
        Store(("a", "b"), marked, edges)
        self.assertEqual((marked, edges), ([("b", "x"), ("a", "x")], [("b", "e", "a"), ("a", "e", "a")]))

    def test_equal(self):
        rows = [(("a", "b"), (), ()), (("a", "c"), (), ()), (("a",), (), ()), (("a", "b"), (("a", "x"),), ()),
                (("a", "b"), (("b", "x"),), ()), (("a", "b"), (("a", "y"),), ()),
                (("a", "b"), (), (("a", "e", "b"),)), (("a", "b"), (), (("b", "e", "a"),)),
                (("a", "b"), (("a", "x"),), (("a", "e", "b"),))]
        for one, other in itertools.product(rows, repeat=2):
            self.assertIs(Store(*one) == Store(*other), one == other)
            self.assertIs(Store(*one) != Store(*other), one != other)

    def test_other_values_are_not_equal(self):
        for value in odd_values() + [ROW.nodes, (ROW.nodes, ROW.marked, ROW.edges), Store, CHAIN]:
            self.assertIs(ROW == value, False)
            self.assertIs(ROW != value, True)
        self.assertIs(CHAIN == ROW, False)
        self.assertIs(CHAIN != ROW, True)

    def test_other_operators(self):
        signs = [operator.lt, operator.le, operator.gt, operator.ge, operator.add, operator.sub, operator.mul,
                 operator.floordiv, operator.truediv, operator.mod, operator.pow, operator.lshift, operator.rshift,
                 operator.and_, operator.or_, operator.xor, operator.matmul, divmod]
        for sign in signs:
            for value in [Store(("a",)), ROW, CHAIN, 0, 1, None, True, "a", "", b"a", (), [], {}, {"a"}, object()]:
                with self.assertRaises(TypeError):
                    sign(ROW, value)
                with self.assertRaises(TypeError):
                    sign(value, ROW)
        for sign in [operator.neg, operator.pos, operator.invert, abs]:
            with self.assertRaises(TypeError):
                sign(ROW)

    def test_iteration_and_in(self):
        for value in ["n", ("p", "a"), None, ROW, 0]:
            with self.assertRaises(TypeError):
                value in ROW
        with self.assertRaises(TypeError):
            iter(ROW)
        with self.assertRaises(TypeError):
            list(ROW)
        with self.assertRaises(TypeError):
            ROW[0]

    def test_methods_stand_in_the_class(self):
        for name in ["__init__", "__eq__"]:
            self.assertIn(name, vars(Store))


class FitsTest(unittest.TestCase):

    def test_by_hand(self):
        self.assertIs(fits(ROW, "p", mark("a")), True)
        self.assertIs(fits(ROW, "o", mark("a")), False)
        self.assertIs(fits(ROW, "o", under(mark("a"))), True)
        self.assertIs(fits(ROW, "n", under(mark("a"))), False)
        self.assertIs(fits(ROW, "n", under(under(mark("a")))), True)
        self.assertIs(fits(ROW, "n", under(LEAF, "f")), False)
        for node in ROW.nodes:
            self.assertIs(fits(ROW, node, LEAF), True)

    def test_one_node_must_have_all_and_several_branches_may_share_one(self):
        apart = Store(("a", "b", "c"), [("b", "x"), ("c", "y")], [("a", "e", "b"), ("a", "e", "c")])
        together = Store(("a", "b"), [("b", "x"), ("b", "y")], [("a", "e", "b")])
        both, each = under(mark("x", "y")), ((), (("e", mark("x")), ("e", mark("y"))))
        self.assertEqual([fits(apart, "a", both), fits(apart, "a", each)], [False, True])
        self.assertEqual([fits(together, "a", both), fits(together, "a", each)], [True, True])

    def test_rings_and_edges_from_a_node_to_itself(self):
        itself = Store(("a",), [("a", "x")], [("a", "e", "a")])
        ring = Store(("a", "b"), [("a", "x")], [("a", "e", "b"), ("b", "e", "a")])
        for levels in [0, 1, 2, 3, 10, 148, 149]:
            self.assertIs(fits(itself, "a", chain(levels, marks=("x",), bottom=mark("x"))), True)
            self.assertIs(fits(itself, "a", chain(levels, bottom=mark("y"))), False)
            self.assertIs(fits(ring, "a", chain(levels, bottom=mark("x"))), levels in (0, 2, 10, 148))
            self.assertIs(fits(ring, "b", chain(levels, bottom=mark("x"))), levels in (1, 3, 149))

    def test_as_the_document_says_for_many(self):
        told = {True: 0, False: 0}
        for number in range(150):
            maker = Maker(number, *[("ab", "e"), ("abc", "ef"), ("", "ef"), ("a", "e")][number % 4])
            store = maker.store()
            held = of_store(store)
            for _ in range(5):
                tree = maker.tree()
                for node in store.nodes:
                    told[plain_fits(held, node, tree)] += 1
                    self.assertIs(fits(store, node, tree), plain_fits(held, node, tree))
        self.assertGreater(min(told.values()), 300)

    def test_as_fits_root_for_the_stores_of_trees(self):
        for number in range(100):
            maker = Maker(number)
            tree = maker.tree()
            store = store_of(tree)
            for _ in range(10):
                pattern = maker.tree()
                self.assertIs(fits(store, "a", pattern), fits_root(tree, pattern))

    def test_trees_that_are_greater(self):
        whole = Store(TWELVE, [(node, "a") for node in TWELVE],
                      [(one, "e", other) for one in TWELVE for other in TWELVE])
        tree = tree_of(great_rules(), (0, 1) * 43 + (1,))
        self.assertIs(fits(whole, "f", tree), True)
        self.assertIs(fits(whole, "f", under(tree, "f")), False)
        self.assertIs(fits(whole, "a", ((), (("e", mark("a")),) * 7000)), True)
        self.assertIs(fits(whole, "a", ((), (("e", mark("a")),) * 7000 + (("e", mark("b")),))), False)
        self.assertIs(fits(whole, "a", chain(3000, bottom=mark("a"))), True)
        self.assertIs(fits(whole, "a", chain(3000, bottom=mark("b"))), False)
        many = tuple(sorted(one + other for one in "abcdefgh" for other in "abcdefgh"))
        store = Store(("a",), [("a", word) for word in many])
        self.assertIs(fits(store, "a", (many, ())), True)
        self.assertIs(fits(store, "a", (many + ("z",), ())), False)

    def test_what_is_no_node_is_refused(self):
        for thing in OTHER_NODES + odd_values():
            for call in [lambda: fits(ROW, thing, LEAF), lambda: reason(CHAIN, ROW, thing)]:
                with self.assertRaises(BadNumber) as caught:
                    call()
                self.assertIs(caught.exception.value, thing)


class ChosenTest(unittest.TestCase):

    def test_by_hand(self):
        self.assertEqual(chosen(CHAIN, ROW), ("n", "o", "p"))
        self.assertEqual([reason(CHAIN, ROW, node) for node in "nop"], [(0, 0, 0), (0, 0), (0,)])
        self.assertEqual(chosen(Rules([mark("a")]), ROW), ("p",))
        self.assertEqual(chosen(Rules([mark("b")], [STEP]), ROW), ())
        self.assertEqual([reason(Rules([mark("b")], [STEP]), ROW, node) for node in "nop"], [None] * 3)
        self.assertEqual(chosen(WIDE, ROW), ("n", "o", "p"))
        self.assertEqual([reason(WIDE, ROW, node) for node in "nop"], [(0,), (0,), (1,)])

    def test_edges_are_gone_along_one_way_only(self):
        store = Store(("n", "o", "p"), [("n", "a")], [("n", "e", "o"), ("o", "e", "p")])
        self.assertEqual(chosen(CHAIN, store), ("n",))

    def test_rings(self):
        ring = [(one, "e", other) for one, other in zip(TWELVE, TWELVE[1:] + TWELVE[:1])]
        self.assertEqual(chosen(CHAIN, Store(TWELVE, [], ring)), ())
        store = Store(TWELVE, [("f", "a")], ring)
        self.assertEqual(chosen(CHAIN, store), TWELVE)
        for number, node in enumerate(TWELVE):
            self.assertEqual(reason(CHAIN, store, node), (0,) * ((5 - number) % 12) + (0,))
        itself = Store(("a", "b"), [("b", "x")], [("a", "e", "a"), ("b", "e", "b")])
        self.assertEqual(chosen(Rules([mark("x")], [STEP]), itself), ("b",))

    def test_a_step_needs_all_of_its_body(self):
        rules = Rules([mark("a")], [(("b",), (("f", mark("c")), ("e", (("d",), (("g", LEAF),), "call"))))])
        whole = [[("n", "b"), ("o", "c"), ("p", "a"), ("p", "d")],
                 [("n", "f", "o"), ("n", "e", "p"), ("p", "g", "p")]]
        self.assertEqual(chosen(rules, Store(("n", "o", "p"), *whole)), ("n", "p"))
        for part, rows in enumerate(whole):
            for row in rows:
                less = [[one for one in every if one != row] for every in whole]
                wanted = () if row == ("p", "a") else ("p",)
                self.assertEqual(chosen(rules, Store(("n", "o", "p"), *less)), wanted)

    def test_against_rounds_that_are_gone_through_plainly(self):
        deepest = 0
        for maker, rules in many_rules(range(300)):
            for _ in range(3):
                store = maker.store()
                held = of_store(store)
                lot = plain_chosen(rules, held)
                self.assertEqual(chosen(rules, store), tuple(sorted(lot)))
                for node in store.nodes:
                    found = reason(rules, store, node)
                    if node not in lot:
                        self.assertIsNone(found)
                        continue
                    self.assertTrue(is_unfolding(rules, found))
                    self.assertTrue(plain_fits(held, node, all_tree(rules, found)))
                    self.assertTrue(fits(store, node, tree_of(rules, found)))
                    deepest = max(deepest, len(found) - 1)
                    if 1 < len(found) < 5:
                        self.assertEqual(fitted(rules, held, node, len(found) - 2), [])
        self.assertGreater(deepest, 2)

    def test_reasons_are_as_few_as_in_trees(self):
        for maker, rules in many_rules(range(400, 500)):
            tree = maker.tree()
            found = reason(rules, store_of(tree), "a")
            self.assertEqual(fewest(rules, tree), None if found is None else len(found) - 1)

    def test_nothing_hangs_on_what_was_asked_before(self):
        before = copy.deepcopy(vars(ROW))
        first = [chosen(CHAIN, ROW), reason(CHAIN, ROW, "n"), fits(ROW, "n", LEAF)]
        for rules in [WIDE, MIXED, great_rules()]:
            chosen(rules, ROW)
            reason(rules, ROW, "o")
            with self.assertRaises(BadNumber):
                reason(rules, ROW, "z")
        self.assertEqual([chosen(CHAIN, ROW), reason(CHAIN, ROW, "n"), fits(ROW, "n", LEAF)], first)
        self.assertEqual(vars(ROW), before)

    def test_names_of_parameters(self):
        self.assertIs(fits(tree=LEAF, node="n", store=ROW), True)
        self.assertEqual(chosen(store=ROW, rules=CHAIN), ("n", "o", "p"))
        self.assertEqual(reason(node="p", store=ROW, rules=CHAIN), (0,))
        self.assertEqual(store_of(tree=LEAF), Store(("a",)))

    def test_no_call_takes_long(self):
        words = [one + other for one in "abcdefghij" for other in "abcde"][:49] + ["e"]
        edges = [(one, word, other) for word in words for one in TWELVE for other in TWELVE]
        start = time.perf_counter()
        for marks in ["", "c", "abc"]:
            store = Store(TWELVE, [(node, word) for node in TWELVE for word in marks], edges)
            for node in TWELVE:
                reason(great_rules(), store, node)
            chosen(great_rules(), store)
            fits(store, "a", ((), (("e", LEAF),) * 7000))
        self.assertLess(time.perf_counter() - start, 10)


class StoreOfTest(unittest.TestCase):

    def test_by_hand(self):
        self.assertEqual(store_of(LEAF), Store(("a",)))
        tree = (("x", "y"), (("f", (("z",), (("e", LEAF), ("f", mark("x"))))), ("e", LEAF), ("e", under(LEAF, "g"))))
        wanted = Store(tuple("abcdefg"), [("a", "x"), ("a", "y"), ("b", "z"), ("d", "x")],
                       [("a", "f", "b"), ("b", "e", "c"), ("b", "f", "d"), ("a", "e", "e"), ("a", "e", "f"),
                        ("f", "g", "g")])
        self.assertEqual(store_of(tree), wanted)
        self.assertIsInstance(store_of(tree), Store)

    def test_twelve_and_thirteen_nodes(self):
        self.assertEqual(store_of(chain(11)).edges, tuple(zip(TWELVE, "e" * 11, TWELVE[1:])))
        wide = ((), (("e", LEAF),) * 11)
        self.assertEqual(store_of(wide).edges, tuple(("a", "e", other) for other in TWELVE[1:]))
        for tree in [chain(12), ((), (("e", LEAF),) * 12), under(wide), chain(148), ((), (("e", LEAF),) * 7000),
                     tree_of(CHAIN, (0,) * 131)]:
            with self.assertRaises(TooMany) as caught:
                store_of(tree)
            self.assertEqual(caught.exception.most, 12)

    def test_every_shape(self):
        for nodes in range(1, 8):
            for shape in shapes(nodes):
                tree = built(shape, (), ("m",))
                store = store_of(tree)
                self.assertEqual(store.nodes, TWELVE[:nodes])
                self.assertEqual(len(store.edges), nodes - 1)
                self.assertEqual(store.marked, tuple((node, "m") for node in TWELVE[:nodes]))
                self.assertIs(fits(store, "a", tree), True)

    def test_many_marks(self):
        many = tuple(sorted(one + other for one in "abcdefgh" for other in "abcdefgh"))
        self.assertEqual(store_of((many, ())).marked, tuple(("a", word) for word in many))

    def test_trees_of_unfoldings(self):
        for maker, rules in many_rules(range(60), nodes=4):
            for one in [(end,) for end in range(len(rules.ends))] + [(0, 0)] * bool(rules.steps):
                tree = tree_of(rules, one)
                self.assertIn("a", chosen(rules, store_of(tree)))


if __name__ == "__main__":
    unittest.main()
