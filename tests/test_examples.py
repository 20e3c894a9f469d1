import doctest
import unittest
from pathlib import Path


class Examples(unittest.TestCase):
    def test_examples_of_the_document(self):
        path = Path(__file__).with_name("examples.txt")
        failed, tried = doctest.testfile(str(path), module_relative=False)
        self.assertEqual(failed, 0)
        self.assertGreater(tried, 30)


if __name__ == "__main__":
    unittest.main()
