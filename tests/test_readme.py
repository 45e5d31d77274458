import doctest
import pathlib
import unittest

README = pathlib.Path(__file__).resolve().parent.parent / "README.md"


class Readme(unittest.TestCase):
    def test_its_examples_hold(self):
        # doctest reads the closing fence as an expected line, so the fences are taken away.
        text = README.read_text(encoding="utf-8").replace("```", "")
        examples = doctest.DocTestParser().get_doctest(text, {}, "README", str(README), 0)
        self.assertTrue(examples.examples)
        self.assertEqual(doctest.DocTestRunner(verbose=False).run(examples).failed, 0)
