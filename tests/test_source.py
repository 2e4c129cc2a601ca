"""The files of the package: their sizes, their characters, and where the interface is defined."""

import ast
import pathlib
import unittest

PACKAGE = pathlib.Path(__file__).resolve().parent.parent / "onlyjoins"
INTERFACE = {
    "errors": ["JoinError", "BadTree", "BadRules", "BadStore", "BadUnfolding", "BadNumber", "BadPaper", "BadText",
               "Needed", "TooMany"],
    "trees": ["is_tree", "is_body", "fits_root"],
    "rules": ["Rules"],
    "unfold": ["is_unfolding", "tree_of", "depth_of", "earliest", "fewest", "shorter"],
    "views": ["gaps", "view"],
    "answers": ["never_needed", "verdict", "check", "own_unfoldings", "least_steps"],
    "stores": ["Store", "fits", "chosen", "reason", "store_of"],
    "compare": ["contained", "parting", "alike", "needless", "joins"],
    "second": ["never_needed_too"],
    "bench": ["Bench", "tried"],
    "texts": ["tree_text", "read_tree", "rules_text", "read_rules"],
}


class SourceTest(unittest.TestCase):

    def sources(self):
        return {path.stem: path.read_text(encoding="utf-8") for path in sorted(PACKAGE.rglob("*.py"))}

    def test_sizes_and_characters(self):
        for name, text in self.sources().items():
            lines = text.split("\n")
            self.assertLess(len(lines), 400, name)
            self.assertLessEqual(max(map(len, lines)), 120, name)
            self.assertTrue(all(" " <= letter <= "~" or letter == "\n" for letter in text), name)
            for node in ast.walk(ast.parse(text)):
                if isinstance(node, ast.FunctionDef):
                    self.assertLessEqual(node.end_lineno - node.lineno + 1, 40, (name, node.name))

    def test_imports_are_of_the_package(self):
        for name, text in self.sources().items():
            for node in ast.walk(ast.parse(text)):
                self.assertNotIsInstance(node, ast.Import, name)
                if isinstance(node, ast.ImportFrom):
                    self.assertEqual((node.level, node.module.split(".")[0]), (0, "onlyjoins"), name)

    def test_interface_is_defined_where_it_is_listed(self):
        sources = self.sources()
        for name, wanted in INTERFACE.items():
            tree = ast.parse(sources[name])
            kinds = (ast.FunctionDef, ast.ClassDef)
            defined = [node.name for node in tree.body if isinstance(node, kinds)]
            for one in wanted:
                self.assertEqual(defined.count(one), 1, (name, one))


if __name__ == "__main__":
    unittest.main()
