import unittest

from tests.examples import all_examples, answer

MODULES = """words spaces maps spreads tables rounds moves stages hops sums writes stores prices threes cores sizes
families ranks growing costs desk""".split()


class ExamplesTest(unittest.TestCase):

    def test_each_example_has_the_answer_below_it(self):
        names = {}
        for code, expected in all_examples():
            with self.subTest(code=code):
                self.assertEqual(answer(code, names), expected)

    def test_there_are_examples_of_each_module(self):
        codes = "\n".join([code for code, _ in all_examples()])
        for module in MODULES:
            self.assertIn(f"from laneswap.{module} import", codes)
        self.assertEqual(len([code for code, expected in all_examples() if expected]), 61)


if __name__ == "__main__":
    unittest.main()
