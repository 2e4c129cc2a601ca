"""Texts of trees, bodies and rules: written and read, and what is no such text."""

import copy
import itertools
import random
import re
import time
import unittest

from made import CHAIN, MIXED, STEP, WIDE, Maker, great_rules, many_rules, mark, under
from onlyjoins.errors import BadText, BadTree
from onlyjoins.rules import Rules
from onlyjoins.texts import read_rules, read_tree, rules_text, tree_text
from onlyjoins.trees import is_body, is_tree
from onlyjoins.unfold import tree_of
from shapes import CALL, LEAF, built, chain, level_of, odd_values, shapes, width_of

# The texts of the document, and more that go to its bounds.
KNOWN = [
    ("-", LEAF), ("a", mark("a")), ("a+b", mark("a", "b")), ("a+aa+ab", mark("a", "aa", "ab")),
    ("abcdefgh", mark("abcdefgh")), ("-(e>a)", under(mark("a"))), ("-(e>-)", under(LEAF)),
    ("-(e>!-)", STEP), ("a(e>!b+c)", under((("b", "c"), (), "call"), "e", ("a",))),
    ("-(e>a,f>!b+c(e>-))", ((), (("e", mark("a")), ("f", (("b", "c"), (("e", LEAF),), "call"))))),
    ("a+b+c(e>a+b+c,e>a+b+c(abcdefgh>-),f>call)",
     (("a", "b", "c"), (("e", mark("a", "b", "c")), ("e", (("a", "b", "c"), (("abcdefgh", LEAF),))),
                        ("f", mark("call"))))),
    ("-(e>-(e>-(e>!-)))", under(under(STEP))), ("-(e>-(e>!-(e>-)))", under(under(under(LEAF)[:2] + ("call",)))),
    ("-(f>-,e>-,f>-)", ((), (("f", LEAF), ("e", LEAF), ("f", LEAF)))),
    ("-(e>!-(e>-,e>-,e>-),e>-)", ((), (("e", ((), (("e", LEAF),) * 3, "call")), ("e", LEAF)))),
]
WRONG = [
    "", " ", "\n", "--", "+", "a+", "+a", "a++b", "-+a", "a+-", "b+a", "a+a", "a+b+b", "a+b+c+d", "A", "a1", "aB",
    "a b", "abcdefghi", "a_b", "a ", " a", "a\n", "\na", "-\n", "!", "!-", "!a", "!a(e>-)", "!-(e>!-)", "-(e>!!-)",
    "-(e>!)",
    "-(e>-!)", "-(!e>-)", "-(e!>-)", "-()", "a()", "-(e>-())", "(e>-)", "-(e)", "-(e>)", "-(>-)", "-(>)", "-(e-)",
    "-(e>-", "-e>-)", "-(e>-))", "-((e>-)", "-(e>(-))", "(-)", "()", ")", "(", ",", ">", "-,-", "-(e>-,)", "-(,e>-)",
    "-(e>-,,e>-)", "-(e>-;e>-)", "-(e>-)(e>-)", "-(e>-)-", "-(e>-)a", "a-(e>-)", "-a", "a-", "-(e>-(f>-)", "-(e>>-)",
    "-(e>-e>-)", "-(e>-)(", "-(e>-)+", "-(ab cd>-)", "-(E>-)", "-(abcdefghi>-)", "-(e>abcdefghi)", "-(e>b+a)",
    "-(e>!-,e>!-)", "-(e>!-(e>!-))", "!-(e>-)", "-(e>-,e>-,e>-,e>-)", "-(e>-(e>-(e>-(e>-))))",
    "-(e>-(e>-(e>-(e>!-))))", "-(e>-(e>-,e>-),e>-(e>-,e>-))", "-(e>-(e>-,e>-),e>-(e>-),e>!-)", "-(e>a+b+c+d)",
    "-(e>call)(e>-)", "-( e>-)", "-(e> -)", "-(e>- )", "-(e>-, e>-)", "-\t", "-\r", "\x00", "\u00e9", "-(e>\u0430)",
    "a+\uff42", "((), ())", "-(-(e>-))", "-(->-)", "-(e+f>-)", "-[e>-]", "-{e>-}", "-<e>-", "end a",
]
SIGNS = "abez+-!(),> A1\n"


def strict(text):
    """The tree or body of a text, read sign by sign with no other text in between; None for none."""
    signs = re.findall(r"[a-z]+|[^a-z]", text)

    def take(sign):
        return bool(signs) and signs[0] == sign and bool(signs.pop(0))

    def word():
        if not signs or not re.fullmatch("[a-z]{1,8}", signs[0]):
            raise ValueError
        return signs.pop(0)

    def node():
        third = ("call",) if take("!") else ()
        marks, branches = [], []
        if not take("-"):
            marks.append(word())
            while take("+"):
                marks.append(word())
        if take("("):
            branches.append(branch())
            while take(","):
                branches.append(branch())
            if not take(")"):
                raise ValueError
        return (tuple(marks), tuple(branches)) + third

    def branch():
        name = word()
        if not take(">"):
            raise ValueError
        return name, node()

    try:
        tree = node()
    except ValueError:
        return None
    return tree if not signs and (is_tree(tree) or is_body(tree)) else None


def one_otherwise(text):
    """All texts that have one character less, more or otherwise, with these signs."""
    for place in range(len(text) + 1):
        if place < len(text):
            yield text[:place] + text[place + 1:]
        for sign in SIGNS:
            yield text[:place] + sign + text[place:]
            if place < len(text):
                yield text[:place] + sign + text[place + 1:]


class TextCase(unittest.TestCase):

    def assert_bad(self, line, function, text):
        with self.assertRaises(BadText) as caught:
            function(text)
        self.assertEqual(caught.exception.line, line, text if isinstance(text, str) else "")
        self.assertNotIsInstance(caught.exception.line, bool)

    def assert_read(self, text):
        """Hold what is read of any text against the strict reader."""
        wanted = strict(text)
        if wanted is None:
            self.assert_bad(1, read_tree, text)
        else:
            self.assertEqual(read_tree(text), wanted)
            self.assertEqual(tree_text(wanted), text)
        return wanted is not None


class TreeTextTest(TextCase):

    def test_known_ones_each_way(self):
        for text, tree in KNOWN:
            self.assertTrue(is_tree(tree) or is_body(tree), text)
            self.assertEqual(tree_text(tree), text)
            self.assertEqual(read_tree(text), tree)

    def test_every_shape_each_way(self):
        seen = {}
        for nodes in range(1, 8):
            for shape in shapes(nodes):
                fine = nodes <= 6 and level_of(shape) <= 3 and width_of(shape) <= 3
                for calls, marks in itertools.product([()] + [(one,) for one in range(nodes)],
                                                      [(), ("a",), ("a", "b"), ("a", "abcdefgh", "b")]):
                    tree = built(shape, calls, marks)
                    if fine and calls != (0,):
                        text = tree_text(tree)
                        self.assertEqual(read_tree(text), tree)
                        self.assertEqual(seen.setdefault(text, tree), tree)
                    else:
                        with self.assertRaises(BadTree):
                            tree_text(tree)
        self.assertGreater(len(seen), 500)

    def test_many_each_way(self):
        kinds = [("ab", "ef"), ("abc", "e"), (["call", "end", "zzzzzzzz"], ["step", "e"])]
        for number in range(300):
            maker = Maker(number, *kinds[number % 3])
            for tree in [maker.tree(), maker.body()]:
                text = tree_text(tree)
                self.assertEqual(strict(text), tree)
                self.assertEqual(read_tree(text), tree)

    def test_what_is_no_tree_and_no_body(self):
        deep = tree_of(CHAIN, (0,) * 131)
        for thing in odd_values() + [CALL, [(), ()], ((), []), ((), (["e", LEAF],)), ((), (("e", CALL),) * 2),
                                     (("b", "a"), ()), chain(4), chain(149), ((), (("e", LEAF),) * 4), deep,
                                     under(deep), (deep, deep), ((), (("e", LEAF),) * 6000), "-", "a", CHAIN, tree_text,
                                     under(under(under(STEP))), ((), (("E", LEAF),)), (("abcdefghi",), ())]:
            with self.assertRaises(BadTree) as caught:
                tree_text(thing)
            self.assertIs(caught.exception.value, thing)

    def test_trees_of_unfoldings(self):
        self.assertEqual(tree_text(tree_of(CHAIN, (0, 0))), "-(e>a)")
        self.assertEqual(tree_text(tree_of(CHAIN, (0, 0, 0, 0))), "-(e>-(e>-(e>a)))")
        with self.assertRaises(BadTree):
            tree_text(tree_of(CHAIN, (0, 0, 0, 0, 0)))


class ReadTreeTest(TextCase):

    def test_wrong_texts(self):
        for text in WRONG:
            self.assertIsNone(strict(text), text)
            self.assert_bad(1, read_tree, text)

    def test_other_kinds_than_texts(self):
        for thing in odd_values() + [b"-", bytearray(b"-"), ["-"], ("-",), LEAF, [LEAF], 0, CHAIN, {"-": 1}]:
            if not isinstance(thing, str):
                self.assert_bad(None, read_tree, thing)
                self.assert_bad(None, read_rules, thing)
            elif strict(thing) is None:
                self.assert_bad(1, read_tree, thing)

    def test_texts_with_one_character_otherwise(self):
        right = wrong = 0
        for text, _ in KNOWN:
            for other in one_otherwise(text):
                fine = self.assert_read(other)
                right += fine
                wrong += not fine
        self.assertGreater(min(right, wrong), 500)

    def test_all_short_texts(self):
        right = 0
        for many in range(6):
            for signs in itertools.product("ab+-!(>)", repeat=many):
                right += self.assert_read("".join(signs))
        self.assertGreater(right, 10)

    def test_texts_that_are_put_together_by_chance(self):
        source = random.Random(3)
        parts = ["a", "b", "-", "e>", "e>-", "(e>", "(", ")", ",", "!", "!-", "+", "(e>-)", "a+b", ",e>a", ",f>!-"]
        right = 0
        for _ in range(20000):
            right += self.assert_read("".join(source.choice(parts) for _ in range(source.randint(1, 7))))
        self.assertGreater(right, 500)

    def test_bounds(self):
        for levels in range(4):
            for bottom, sign in [(LEAF, "-"), (CALL, "!-")]:
                if levels or bottom == LEAF:
                    text = "-(e>" * levels + sign + ")" * levels
                    self.assertEqual(read_tree(text), chain(levels, bottom=bottom))
        for text in ["-(e>" * 4 + "-" + ")" * 4, "-(e>" * 4 + "!-" + ")" * 4]:
            self.assert_bad(1, read_tree, text)
        for many in range(1, 6):
            text = "-(" + ",".join(["e>-"] * many) + ")"
            if many <= 3:
                self.assertEqual(read_tree(text), ((), (("e", LEAF),) * many))
            else:
                self.assert_bad(1, read_tree, text)
        self.assertEqual(len(read_tree("-(e>-(e>-,e>-),e>-,e>-)")[1]), 3)
        self.assertEqual(len(read_tree("-(e>-(e>-,e>!-),e>-,e>-)")[1]), 3)
        self.assert_bad(1, read_tree, "-(e>-(e>-,e>-),e>-(e>-),e>-)")
        self.assert_bad(1, read_tree, "-(e>-(e>-,e>!-),e>-(e>-),e>-)")

    def test_great_texts(self):
        start = time.perf_counter()
        many = 30000
        texts = ["a" * many, "-" * many, "(" * many, ")" * many, ">" * many, "," * many, "!" * many, "+" * many,
                 "\n" * many, " " * many, "a+" * (many // 2), "-(e>" * (many // 4), "(e>" * (many // 3),
                 "-(e>" * 3700 + "-" + ")" * 3700, "-(" + "e>-," * 7400 + "e>-)", "((>" * (many // 3),
                 "-(" * 15000, ">(" * 15000, "-(e>-)" * 5000, "e>" * 15000, "a" * 29995 + "(e>-)",
                 "-(" + "e" * 29990 + ">-)", "-(e>" + "+".join(["a"] * 14900) + ")", "!" * 29000 + "-(e>-)"]
        for text in texts:
            self.assertLessEqual(len(text), many)
            self.assert_bad(1, read_tree, text)
            self.assert_bad(1, read_rules, text)
            self.assert_bad(1, read_rules, ("end " + text)[:many])
            if "\n" not in text:
                self.assert_bad(2, read_rules, ("end -\nstep " + text)[:many])
        self.assertLess(time.perf_counter() - start, 10)


class RulesTextTest(TextCase):

    def test_known_ones(self):
        for rules, text in [(Rules([LEAF]), "end -"), (CHAIN, "end a\nstep -(e>!-)"),
                            (WIDE, "end -(e>-)\nend a\nstep -(e>!-)"),
                            (MIXED, "end a\nend -(f>b)\nstep -(e>!-)\nstep c(f>-,e>-(e>!a+d(g>-)))\n"
                                    "step -(e>-(f>-(g>!b)))")]:
            self.assertEqual(rules_text(rules), text)
            self.assertEqual(read_rules(text), rules)
            self.assertIsInstance(read_rules(text), Rules)

    def test_many_each_way(self):
        for maker, rules in many_rules(range(300)):
            text = rules_text(rules)
            lines = ["end " + tree_text(tree) for tree in rules.ends]
            lines += ["step " + tree_text(body) for body in rules.steps]
            self.assertEqual(text, "\n".join(lines))
            self.assertEqual(read_rules(text), rules)

    def test_numbers_of_ends_and_steps(self):
        for ends, steps in itertools.product(range(6), repeat=2):
            text = "\n".join(["end a"] * ends + ["step -(e>!a)"] * steps)
            if ends == 0:
                self.assert_bad(1, read_rules, text)
            elif ends > 3:
                self.assert_bad(4, read_rules, text)
            elif steps > 3:
                self.assert_bad(ends + 4, read_rules, text)
            else:
                self.assertEqual(read_rules(text), Rules([mark("a")] * ends, [under((("a",), (), "call"))] * steps))

    def test_lines_left_out_doubled_and_turned_about(self):
        lines = ["end -", "end a", "step -(e>!-)", "step -(f>!-)"]
        for many in range(5):
            for row in itertools.product(lines, repeat=many):
                kinds = [line.split()[0] for line in row]
                wrong = [number for number, kind in enumerate(kinds)
                         if kinds[:number + 1].count(kind) > 3
                         or kind == "end" and "step" in kinds[:number] or kind == "step" and number == 0]
                text = "\n".join(row)
                if wrong or not row:
                    self.assert_bad(wrong[0] + 1 if row else 1, read_rules, text)
                else:
                    self.assertEqual(rules_text(read_rules(text)), text)

    def test_empty_lines(self):
        self.assert_bad(1, read_rules, "")
        self.assert_bad(1, read_rules, "\n")
        self.assert_bad(1, read_rules, "\nend a")
        self.assert_bad(2, read_rules, "end a\n")
        self.assert_bad(2, read_rules, "end a\n\n")
        self.assert_bad(2, read_rules, "end a\n\nstep -(e>!-)")
        self.assert_bad(3, read_rules, "end a\nstep -(e>!-)\n")
        self.assert_bad(7, read_rules, "end a\n" * 3 + "step -(e>!-)\n" * 3)
        self.assert_bad(7, read_rules, "\n".join(["end a"] * 3 + ["step -(e>!-)"] * 3 + ["step -(e>!-)"]))

    def test_wrong_lines(self):
        good = ["end a", "end -(e>b)", "step -(e>!-)", "step a(f>!b)"]
        bad = ["", " ", "end", "step", "end ", "step ", "end  a", " end a", "end a ", "enda", "End a", "END a",
               "ends a", "end\ta", "end a\r", "a", "-", "-(e>!-)", "end -(e>!-)", "step a", "step -(e>-)",
               "step  -(e>!-)",
               "step -(e>!-) ", "stepp -(e>!-)", "end b+a", "end a a", "end end a", "step step -(e>!-)", "end !a",
               "step !a", "step !-(e>!-)", "end -(e>-", "step -(e>!-,e>!-)", "join a", "end a,", "end:a", "end;-",
               "end -(e>-(e>-(e>-(e>-))))", "step -(e>-(e>-(e>-(e>!-))))"]
        self.assertEqual(len(read_rules("\n".join(good)).ends), 2)
        for place in range(len(good) + 1):
            for line in bad:
                for end in [place, place + 1]:
                    text = "\n".join(good[:place] + [line] + good[end:])
                    self.assert_bad(place + 1, read_rules, text)

    def test_the_first_wrong_line_is_told(self):
        self.assert_bad(1, read_rules, "step -(e>!-)\nend A")
        self.assert_bad(2, read_rules, "end a\nend A\nend B")
        self.assert_bad(3, read_rules, "end a\nstep -(e>!-)\nend a\nstep a")
        self.assert_bad(4, read_rules, "end a\nend a\nend a\nend A\nstep")
        self.assert_bad(2, read_rules, "end a\nb" + "\n" * 29000)

    def test_texts_with_one_character_otherwise(self):
        text = rules_text(Rules([mark("a"), under(LEAF)], [STEP, under((("b",), (), "call"), "f")]))
        told = {}
        for other in one_otherwise(text):
            lines = other.split("\n")
            ends = steps = 0
            for number, line in enumerate(lines, 1):
                tree = strict(line[4:]) if line[:4] == "end " else strict(line[5:]) if line[:5] == "step " else None
                if line[:4] == "end " and is_tree(tree) and not steps and ends < 3:
                    ends += 1
                elif line[:5] == "step " and is_body(tree) and ends and steps < 3:
                    steps += 1
                else:
                    self.assert_bad(number, read_rules, other)
                    told[number] = told.get(number, 0) + 1
                    break
            else:
                self.assertEqual(rules_text(read_rules(other)), other)
                told[0] = told.get(0, 0) + 1
        self.assertGreater(min(told[number] for number in range(5)), 10)

    def test_great_texts(self):
        start = time.perf_counter()
        self.assert_bad(4, read_rules, "end -\n" * 5000)
        self.assert_bad(5, read_rules, "end -\n" + "step -(e>!-)\n" * 2200)
        self.assert_bad(2, read_rules, "end -\n" + "\n" * 29990)
        self.assert_bad(2, read_rules, "end -\nend " + "-(e>" * 7000)
        self.assertLess(time.perf_counter() - start, 10)


class CallsTest(TextCase):

    def test_nothing_hangs_on_what_was_asked_before(self):
        before = copy.deepcopy(vars(MIXED))
        first = [rules_text(MIXED), read_tree("a"), read_rules("end a"), tree_text(STEP)]
        for function, thing in [(read_tree, "A"), (read_rules, "end A"), (tree_text, None), (read_tree, 0)]:
            with self.assertRaises(ValueError):
                function(thing)
        self.assertEqual([rules_text(MIXED), read_tree("a"), read_rules("end a"), tree_text(STEP)], first)
        self.assertEqual(vars(MIXED), before)

    def test_names_of_parameters(self):
        self.assertEqual(tree_text(tree=LEAF), "-")
        self.assertEqual(read_tree(text="-"), LEAF)
        self.assertEqual(rules_text(rules=CHAIN), "end a\nstep -(e>!-)")
        self.assertEqual(read_rules(text="end a\nstep -(e>!-)"), CHAIN)

    def test_great_rules(self):
        rules = great_rules()
        self.assertEqual(read_rules(rules_text(rules)), rules)


if __name__ == "__main__":
    unittest.main()
