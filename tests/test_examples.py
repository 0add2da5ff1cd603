import doctest
import unittest


class Examples(unittest.TestCase):
    def test_examples_of_the_document(self):
        failed, tried = doctest.testfile("examples.txt", package="tests")
        self.assertEqual(failed, 0)
        self.assertGreater(tried, 12)

    def test_examples_of_the_readme(self):
        failed, tried = doctest.testfile("../README.md", package="tests")
        self.assertEqual(failed, 0)
        self.assertGreater(tried, 4)


if __name__ == "__main__":
    unittest.main()
