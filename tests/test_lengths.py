import unittest

from mitrehouse.errors import NotThere
from mitrehouse.lengths import growth, is_length, length_worth, numbers_in
from mitrehouse.ratios import plus, ratio, times

NUM = ("num", (1, 2))
OF = ("of", "w")


def deep(levels, leaf=OF):
    """Returns a length that is nested so many levels deep."""
    for _ in range(levels - 1):
        leaf = ("times", (1, 1), leaf)
    return leaf


class Lengths(unittest.TestCase):
    def test_each_form(self):
        for value in (NUM, OF, ("plus", NUM, OF), ("minus", OF, NUM), ("times", (-2, 3), OF), ("num", (0, 1)),
                      ("times", (0, 1), ("plus", NUM, ("minus", OF, OF)))):
            self.assertIs(is_length(value), True, value)

    def test_values_that_are_none(self):
        for value in (None, 1, True, "w", "num", (), ("num",), ["num", (1, 2)], ("num", (2, 4)), ("num", 1),
                      ("num", (True, 1)), ("num", (1, True)), ("num", [1, 2]), ("of", "W"), ("of", "abcdefghijklm"),
                      ("of", ""), ("of", 1), ("of", "1w"), ("of", (1, 2)), ("num", "w"), ("plus", NUM),
                      ("plus", NUM, OF, OF), ("minus", NUM), ("times", OF, (1, 2)), ("times", (1, 2)),
                      ("times", NUM, OF), ("times", (2, 2), OF), ("plus", NUM, None), ("plus", (1, 2), OF),
                      ("over", NUM, OF), ("num", (1, 2), NUM), ("of", "w", OF), (("num",), (1, 2)), ([], [])):
            self.assertIs(is_length(value), False, value)

    def test_depth(self):
        self.assertIs(is_length(deep(8)), True)
        self.assertIs(is_length(deep(9)), False)
        self.assertIs(is_length(("plus", deep(7), NUM)), True)
        self.assertIs(is_length(("plus", deep(8), NUM)), False)
        self.assertIs(is_length(("minus", NUM, deep(7))), True)
        self.assertIs(is_length(("minus", NUM, deep(8))), False)
        self.assertIs(is_length(deep(900)), False)

    def test_somewhat_deeper_lengths_are_worked_out(self):
        self.assertEqual(length_worth(deep(12), {"w": (5, 1)}), (5, 1))
        self.assertEqual(numbers_in(deep(12)), ["w"])
        self.assertEqual(growth(deep(12), "w"), (1, 1))

    def test_worth(self):
        numbers = {"v": (2, 1), "w": (1, 3)}
        self.assertEqual(length_worth(NUM, {}), (1, 2))
        self.assertEqual(length_worth(OF, numbers), (1, 3))
        self.assertEqual(length_worth(("plus", ("of", "v"), OF), numbers), (7, 3))
        self.assertEqual(length_worth(("minus", ("of", "v"), OF), numbers), (5, 3))
        self.assertEqual(length_worth(("times", (-3, 2), OF), numbers), (-1, 2))
        self.assertEqual(numbers, {"v": (2, 1), "w": (1, 3)})

    def test_not_there(self):
        for length in (OF, ("plus", NUM, OF), ("minus", OF, NUM), ("times", (0, 1), OF)):
            with self.assertRaises(NotThere):
                length_worth(length, {"v": (1, 1)})

    def test_numbers_in(self):
        self.assertEqual(numbers_in(NUM), [])
        self.assertEqual(numbers_in(("plus", ("of", "z"), ("minus", ("of", "a"), ("times", (0, 1), ("of", "z"))))),
                         ["a", "z"])

    def test_growth(self):
        length = ("minus", ("times", (3, 2), ("of", "w")), ("plus", ("of", "v"), ("times", (2, 1), OF)))
        self.assertEqual(growth(length, "w"), (-1, 2))
        self.assertEqual(growth(length, "v"), (-1, 1))
        self.assertEqual(growth(length, "u"), (0, 1))
        self.assertEqual(growth(NUM, "w"), (0, 1))
        for worth in (ratio(0), ratio(7, 3), ratio(-4)):
            there = length_worth(length, {"v": (1, 1), "w": worth})
            start = length_worth(length, {"v": (1, 1), "w": (0, 1)})
            self.assertEqual(there, plus(start, times(worth, growth(length, "w"))))


if __name__ == "__main__":
    unittest.main()
