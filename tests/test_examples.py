import doctest
import os
import unittest

EXAMPLES = os.path.join(os.path.dirname(os.path.abspath(__file__)), "examples.txt")


class ExamplesTest(unittest.TestCase):
    def test_the_examples_of_the_document(self):
        results = doctest.testfile(EXAMPLES, module_relative=False)
        self.assertEqual(results.failed, 0)
        self.assertEqual(results.attempted, 126)
