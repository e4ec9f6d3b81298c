import doctest
import pathlib
import unittest

README = pathlib.Path(__file__).resolve().parent.parent / "README.md"


class ReadmeTest(unittest.TestCase):
    def test_the_examples_are_right(self):
        # The fences of the examples are no part of what Python prints.
        text = README.read_text(encoding="utf-8").replace("```", "")
        examples = doctest.DocTestParser().get_doctest(text, {}, "README.md", str(README), 0)
        self.assertGreater(len(examples.examples), 5)
        said = []
        outcome = doctest.DocTestRunner(verbose=False).run(examples, out=said.append)
        self.assertEqual(outcome.failed, 0, "".join(said))


if __name__ == "__main__":
    unittest.main()
