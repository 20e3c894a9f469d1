import unittest

from mitrehouse.errors import (Malformed, MitreError, NotNumber, NotRight, NotThere, Stops, TooLarge, is_name)


class Errors(unittest.TestCase):
    def test_each_error_is_directly_below_the_base(self):
        for error in (NotNumber, NotThere, NotRight, TooLarge, Malformed, Stops):
            self.assertEqual(error.__bases__, (MitreError,))
        self.assertEqual(MitreError.__bases__, (ValueError,))

    def test_messages(self):
        for error in (NotNumber, NotThere, NotRight, TooLarge):
            self.assertEqual(str(error("why")), "why")

    def test_attributes(self):
        self.assertEqual(Malformed(7).at, 7)
        stop = Stops("base", "number")
        self.assertEqual((stop.name, stop.reason), ("base", "number"))
        self.assertIsInstance(str(stop), str)
        self.assertIsInstance(str(Malformed(0)), str)


class Names(unittest.TestCase):
    def test_names(self):
        for word in ("a", "z9", "a1b2", "abcdefghijkl", "w00000000000"):
            self.assertTrue(is_name(word), word)

    def test_no_names(self):
        for word in ("", "abcdefghijklm", "Abc", "aBc", "1a", "a b", "a.b", "a-b", "a_b", "_a", "a\n", "\u00e4", "a\u00e4",
                     "a\u0661", " a", "a "):
            self.assertFalse(is_name(word), word)

    def test_other_values(self):
        for value in (None, 0, 1, True, b"a", ["a"], ("a",), {"a": 1}):
            self.assertIs(is_name(value), False)
        self.assertIs(is_name("a"), True)


if __name__ == "__main__":
    unittest.main()
