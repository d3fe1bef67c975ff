import doctest
import os
import unittest

README = os.path.join(os.path.dirname(os.path.dirname(os.path.abspath(__file__))), "README.md")


class Readme(unittest.TestCase):
    def test_examples(self):
        with open(README, encoding="utf-8") as file:
            text = file.read().replace("```python", "").replace("```", "")
        examples = doctest.DocTestParser().get_doctest(text, {}, "README.md", README, 0)
        self.assertGreater(len(examples.examples), 10)
        runner = doctest.DocTestRunner()
        runner.run(examples)
        self.assertEqual(runner.failures, 0)


if __name__ == "__main__":
    unittest.main()
