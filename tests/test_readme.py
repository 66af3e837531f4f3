"""The examples of README.md."""

import doctest
import os
import unittest

README = os.path.join(os.path.dirname(os.path.dirname(os.path.abspath(__file__))), "README.md")


class ReadmeTest(unittest.TestCase):
    def test_examples(self):
        with open(README, encoding="utf-8") as file:
            # The fences of the code are no part of what an example prints.
            text = file.read().replace("```", "")
        example = doctest.DocTestParser().get_doctest(text, {}, "README.md", README, 0)
        self.assertGreater(len(example.examples), 5)
        told = []
        self.assertEqual(0, doctest.DocTestRunner().run(example, out=told.append).failed, "".join(told))
