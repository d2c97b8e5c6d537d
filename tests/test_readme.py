import doctest
import pathlib
import unittest

README = pathlib.Path(__file__).resolve().parent.parent / "README.md"


class Readme(unittest.TestCase):
    def test_examples(self):
        # doctest takes the line that closes a block of code for output.
        text = README.read_text(encoding="utf-8").replace("```", "")
        found = doctest.DocTestParser().get_doctest(text, {}, "README.md", str(README), 0)
        self.assertGreater(len(found.examples), 5)
        shown = []
        result = doctest.DocTestRunner(verbose=False).run(found, out=shown.append)
        self.assertEqual(result.failed, 0, "".join(shown))


if __name__ == "__main__":
    unittest.main()
