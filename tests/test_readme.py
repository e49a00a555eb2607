"""The examples of README.md give what it says."""

import doctest
import pathlib
import unittest

README = pathlib.Path(__file__).resolve().parent.parent / "README.md"


class Readme(unittest.TestCase):
    def test_examples(self):
        parser = doctest.DocTestParser()
        # The lines that end a block of code would otherwise count as output.
        text = README.read_text("ascii").replace("```", "")
        examples = parser.get_doctest(text, {}, "README.md", str(README), 0)
        self.assertGreater(len(examples.examples), 0)
        report = []
        result = doctest.DocTestRunner().run(examples, out=report.append)
        self.assertEqual(result.failed, 0, "".join(report))


if __name__ == "__main__":
    unittest.main()
