"""The examples at the end of the document, word for word, and those of the README."""

import contextlib
import doctest
import io
import pathlib
import re
import unittest

TOP = pathlib.Path(__file__).resolve().parent.parent
DOCUMENT = TOP.parent / "shared" / "DOC.md"
EXAMPLES = """
>>> from onlyjoins.answers import check, least_steps, never_needed, own_unfoldings, verdict
>>> from onlyjoins.compare import contained, parting
>>> from onlyjoins.rules import Rules
>>> from onlyjoins.stores import Store, chosen
>>> from onlyjoins.texts import tree_text
>>> from onlyjoins.unfold import shorter, tree_of
>>> from onlyjoins.views import view
>>> call = ((), (), 'call')
>>> step = ((), (('e', call),))
>>> chain = Rules([(('a',), ())], [step])
>>> never_needed(chain), check(chain, ('needed', (0,), (0, 0)))
(False, 'needed')
>>> view(chain, (0, 0)) == view(chain, (0, 0, 0)) == (1, (), (0,))
True
>>> wide = Rules([((), (('e', ((), ())),)), (('a',), ())], [step])
>>> check(wide, ('never', ((0,), (1,)), (((0, 0), (0,)), ((0, 1), (0,)))))
'never'
>>> verdict(wide)[0]
'never'
>>> own_unfoldings(wide), least_steps(wide)
(((0,), (1,)), 0)
>>> contained(chain, wide), parting(wide, chain)
(True, (0,))
>>> tree_text(tree_of(chain, (0, 0)))
'-(e>a)'
>>> chosen(chain, Store(('n', 'o', 'p'), [('p', 'a')], [('n', 'e', 'o'), ('o', 'e', 'p')]))
('n', 'o', 'p')
"""


class DocumentTest(unittest.TestCase):

    def test_all_examples_hold(self):
        example = doctest.DocTestParser().get_doctest(EXAMPLES, {}, "examples", None, 0)
        self.assertEqual(len(example.examples), 19)
        told = []
        results = doctest.DocTestRunner(verbose=False).run(example, out=told.append)
        self.assertEqual(results.failed, 0, "".join(told))
        self.assertEqual(results.attempted, 19)

    @unittest.skipUnless(DOCUMENT.is_file(), "the document is not beside this project")
    def test_these_are_all_of_the_document(self):
        text = DOCUMENT.read_text(encoding="utf-8")
        inside = text[text.index("\n# Examples\n"):].split("```\n")[1]
        self.assertEqual(inside, EXAMPLES.lstrip("\n"))

    def test_the_examples_of_the_readme(self):
        code = "\n".join(re.findall(r"```python\n(.*?)```", (TOP / "README.md").read_text(encoding="utf-8"), re.S))
        wanted = [line.split("  # ")[1] for line in code.split("\n") if "print(" in line]
        told = io.StringIO()
        with contextlib.redirect_stdout(told):
            exec(code, {})
        self.assertEqual(told.getvalue().splitlines(), wanted)


if __name__ == "__main__":
    unittest.main()
