import doctest
import unittest
from pathlib import Path

README = Path(__file__).resolve().parent.parent / "README.md"


class Examples(unittest.TestCase):
    def test_of_the_readme(self):
        # What a fence closes is no part of what is expected.
        text = README.read_text("utf-8").replace("\n```", "\n\n")
        found = doctest.DocTestParser().get_doctest(text, {}, "README.md", str(README), 0)
        self.assertGreater(len(found.examples), 3)
        self.assertEqual(doctest.DocTestRunner(verbose=False).run(found).failed, 0)


if __name__ == "__main__":
    unittest.main()
