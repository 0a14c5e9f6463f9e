import doctest
import pathlib
import unittest

README = pathlib.Path(__file__).resolve().parent.parent / "README.md"


class TestReadme(unittest.TestCase):
    def test_what_it_shows(self):
        text = README.read_text().replace("```", "")
        test = doctest.DocTestParser().get_doctest(text, {}, "README.md", "README.md", 0)
        done = doctest.DocTestRunner().run(test)
        self.assertEqual(done.failed, 0)
        self.assertGreater(done.attempted, 5)


if __name__ == "__main__":
    unittest.main()
