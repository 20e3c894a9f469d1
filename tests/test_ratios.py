import unittest
from fractions import Fraction
from math import gcd

from mitrehouse.errors import NotNumber
from mitrehouse.ratios import (ascending, greatest, is_less, is_ratio, least, minus, opposite, over, plus, ratio,
                               read_ratio, root, sign, times, total, write_ratio, zeros)
from samples import as_ratio, fraction

SMALL = [ratio(above, below) for above in range(-7, 8) for below in range(1, 6)]
LONG = 7 ** 6000


class Ratios(unittest.TestCase):
    def test_ratio(self):
        self.assertEqual(ratio(6, -4), (-3, 2))
        self.assertEqual(ratio(-6, -4), (3, 2))
        self.assertEqual(ratio(0, -5), (0, 1))
        self.assertEqual(ratio(5), (5, 1))
        self.assertEqual(ratio(4, 2), (2, 1))
        self.assertEqual(ratio(LONG * 3, -LONG * 6), (-1, 2))
        for above in (0, 1, -3):
            with self.assertRaises(NotNumber):
                ratio(above, 0)

    def test_is_ratio(self):
        for value in ((0, 1), (1, 1), (-3, 2), (LONG, LONG + 1)):
            self.assertIs(is_ratio(value), True)
        for value in ((0, 2), (2, 4), (1, 0), (1, -1), (-1, -1), (3, 3), [1, 2], (1,), (1, 2, 3), 1, None, "12",
                      (True, 1), (1, True), (False, 1), ("1", 1), (1, "1"), (1.0, 1), (1, None), ((1, 1), 1)):
            self.assertIs(is_ratio(value), False, value)

    def test_sums_and_products(self):
        for one in SMALL:
            for other in SMALL:
                a, b = fraction(one), fraction(other)
                self.assertEqual(plus(one, other), as_ratio(a + b))
                self.assertEqual(minus(one, other), as_ratio(a - b))
                self.assertEqual(times(one, other), as_ratio(a * b))
                if b:
                    self.assertEqual(over(one, other), as_ratio(a / b))
                else:
                    self.assertRaises(NotNumber, over, one, other)

    def test_long_integers(self):
        one, other = ratio(LONG, 3), ratio(-LONG + 1, 5)
        for found, wanted in ((plus(one, other), Fraction(LONG, 3) + Fraction(1 - LONG, 5)),
                              (times(one, other), Fraction(LONG, 3) * Fraction(1 - LONG, 5)),
                              (over(one, other), Fraction(LONG, 3) / Fraction(1 - LONG, 5))):
            self.assertEqual(found, as_ratio(wanted))
            self.assertTrue(is_ratio(found))

    def test_orders(self):
        for one in SMALL:
            self.assertEqual(opposite(one), as_ratio(-fraction(one)))
            self.assertEqual(sign(one), (fraction(one) > 0) - (fraction(one) < 0))
            for other in SMALL:
                self.assertIs(is_less(one, other), fraction(one) < fraction(other))
                self.assertEqual(least(one, other), min(one, other, key=fraction))
                self.assertEqual(greatest(one, other), max(one, other, key=fraction))

    def test_total(self):
        self.assertEqual(total([]), (0, 1))
        self.assertEqual(total([(1, 2), (1, 3), (1, 6)]), (1, 1))
        self.assertEqual(total(SMALL), as_ratio(sum([fraction(one) for one in SMALL], Fraction(0))))

    def test_ascending(self):
        told = SMALL[::-1] + SMALL
        kept = list(told)
        self.assertEqual(ascending(told), sorted(set(SMALL), key=fraction))
        self.assertEqual(told, kept)
        self.assertEqual(ascending([]), [])
        # By worth, not as tuples.
        self.assertEqual(ascending([(1, 2), (1, 3), (-1, 2), (1, 3)]), [(-1, 2), (1, 3), (1, 2)])


class Roots(unittest.TestCase):
    def test_squares(self):
        for one in SMALL:
            square = times(one, one)
            self.assertEqual(root(square), ratio(abs(one[0]), one[1]))
        self.assertEqual(root((0, 1)), (0, 1))

    def test_none(self):
        for one in ((2, 1), (1, 2), (8, 9), (9, 8), (-4, 1), (-1, 9), (-1, 1)):
            self.assertIsNone(root(one))

    def test_many_digits(self):
        many = 12345678901234567890 ** 9
        self.assertEqual(root((many ** 2, 1)), (many, 1))
        self.assertIsNone(root((many ** 2 + 1, 1)))
        self.assertIsNone(root((many ** 2 - 1, 1)))
        self.assertEqual(root(ratio(many ** 2, 49)), ratio(many, 7))
        self.assertEqual(root(ratio(49, many ** 2)), ratio(7, many))
        self.assertIsNone(root(ratio(49, many ** 2 + 2)))


class Zeros(unittest.TestCase):
    def test_line(self):
        self.assertEqual(zeros((0, 1), (2, 1), (-3, 1)), [(3, 2)])
        self.assertEqual(zeros((0, 1), (2, 1), (0, 1)), [(0, 1)])

    def test_not_number(self):
        for c in ((0, 1), (1, 1)):
            with self.assertRaises(NotNumber):
                zeros((0, 1), (0, 1), c)

    def test_double(self):
        self.assertEqual(zeros((1, 1), (-4, 1), (4, 1)), [(2, 1)])
        self.assertEqual(zeros((3, 1), (0, 1), (0, 1)), [(0, 1)])

    def test_none(self):
        self.assertEqual(zeros((1, 1), (0, 1), (-2, 1)), [])
        self.assertEqual(zeros((1, 1), (0, 1), (1, 1)), [])

    def test_from_the_zeros(self):
        some = SMALL[::4]
        for one in some:
            for other in some:
                for a in ((1, 1), (-2, 3), (5, 1)):
                    b = times(a, opposite(plus(one, other)))
                    c = times(a, times(one, other))
                    self.assertEqual(zeros(a, b, c), ascending([one, other]))


class Writing(unittest.TestCase):
    def test_write(self):
        for one, word in (((0, 1), "0"), ((-3, 2), "-3/2"), ((5, 1), "5"), ((-7, 1), "-7"), ((1, 100), "1/100")):
            self.assertEqual(write_ratio(one), word)
            self.assertEqual(read_ratio(word), one)

    def test_write_more_digits_than_python_does(self):
        word = "1" + "0" * 5000
        self.assertEqual(write_ratio((10 ** 5000, 1)), word)
        self.assertEqual(write_ratio((-10 ** 5000, 1)), "-" + word)
        self.assertEqual(write_ratio((1, 10 ** 64)), "1/1" + "0" * 64)
        self.assertEqual(write_ratio((10 ** 64 - 1, 1)), "9" * 64)
        digits = "123456789" * 600
        number = 0
        for digit in digits:
            number = 10 * number + int(digit)
        self.assertEqual(write_ratio((number, 1)), digits)

    def test_read_and_write(self):
        for one in SMALL:
            self.assertEqual(read_ratio(write_ratio(one)), one)
            self.assertEqual(gcd(*one), 1)

    def test_wrong_words(self):
        for word in ("", "-", "/", "+1", "--1", "1/", "/2", "-/2", "1/-2", "1/+2", "1/1", "2/4", "4/2", "-0", "0/1",
                     "0/2", "00", "01", "-01", "1/02", "1/0", "0/0", " 1", "1 ", "1 /2", "1/ 2", "1/2/3", "1.0", "1e3",
                     "1_0", "\u0661", "\u00b2", "1/\u0662", "a", "0x1", "1\n", "-1/1", "--", "1-", "\uff11"):
            with self.assertRaises(NotNumber, msg=word):
                read_ratio(word)

    def test_thirty_digits(self):
        most = "9" * 30
        self.assertEqual(read_ratio(most), (10 ** 30 - 1, 1))
        self.assertEqual(read_ratio("-" + most), (1 - 10 ** 30, 1))
        self.assertEqual(read_ratio("1/" + most), (1, 10 ** 30 - 1))
        self.assertEqual(read_ratio("1" + "0" * 29 + "/" + most), (10 ** 29, 10 ** 30 - 1))
        for word in (most + "9", "-" + most + "9", "1/" + most + "9", "1/1" + "0" * 30, "0" + most, "1" * 6000):
            with self.assertRaises(NotNumber):
                read_ratio(word)


if __name__ == "__main__":
    unittest.main()
