import random
import unittest

from mitrehouse.errors import NotRight
from mitrehouse.faces import is_face_name
from mitrehouse.lengths import is_length
from mitrehouse.ratios import ratio
from mitrehouse.sketches import FORMS, is_constraint
from mitrehouse.words import (read_constraint, read_face_name, read_label, read_length, write_constraint,
                              write_face_name, write_label, write_length)
from samples import num

ONE = num(1)


def nested(depth, word="plus"):
    """Returns a length that is nested so deep on its last side."""
    if depth == 1:
        return ("of", "w")
    return ("times", ratio(2), nested(depth - 1, word)) if word == "times" else (word, ONE, nested(depth - 1, word))


def random_length(chance, depth):
    word = chance.choice(["num", "of"] if depth == 1 else ["num", "of", "plus", "minus", "times"])
    if word == "num":
        return num(chance.randint(-9, 9), chance.randint(1, 9))
    if word == "of":
        return (word, chance.choice(["w", "h2", "abcdefghijkl", "num", "plus"]))
    if word == "times":
        return (word, ratio(chance.randint(-9, 9), chance.randint(1, 9)), random_length(chance, depth - 1))
    return (word, random_length(chance, depth - 1), random_length(chance, depth - 1))


class Lengths(unittest.TestCase):
    def test_written(self):
        for length, text in ((num(-1, 2), "num -1/2"), (("of", "w"), "of w"), (("plus", ("of", "w"), ONE), "plus of w num 1"),
                             (("minus", ONE, ("minus", ONE, ("of", "h"))), "minus num 1 minus num 1 of h"),
                             (("minus", ("minus", ONE, ("of", "h")), ONE), "minus minus num 1 of h num 1"),
                             (("times", ratio(-2, 3), ("of", "w")), "times -2/3 of w")):
            self.assertEqual(write_length(length), text)
            self.assertEqual(read_length(text.split(" ")), length)

    def test_there_and_back(self):
        chance = random.Random(160)
        for _ in range(200):
            length = random_length(chance, 8)
            self.assertTrue(is_length(length))
            self.assertEqual(read_length(write_length(length).split(" ")), length)

    def test_eight_and_nine_deep(self):
        for word in ("plus", "minus", "times"):
            self.assertEqual(read_length(write_length(nested(8, word)).split(" ")), nested(8, word))
            self.assertRaises(NotRight, read_length, write_length(nested(9, word)).split(" "))
        left = ("plus", nested(8), ONE)
        self.assertRaises(NotRight, read_length, write_length(left).split(" "))

    def test_wrong_words(self):
        for text in ("", "num", "num 1 2", "num x", "num 2/4", "num 01", "num -0", "num +1", "num 1/1", "num 1.5", "num 1/0",
                     "num " + "1" * 31, "of", "of W", "of 1w", "of w h", "of abcdefghijklm", "of a.b", "plus", "plus num 1",
                     "plus num 1 num", "plus num 1 num 2 num 3", "plus 1 2", "minus of w", "minus of w num 1 of h", "times",
                     "times 2", "times num 2 of w", "times of w 2", "times 2 of w 3", "times x of w", "over num 1 num 2", "Num 1",
                     "num  1", " num 1", "num 1 ", "of ", "times  of w", "1", "w", "plus  num 1 num 2"):
            self.assertRaises(NotRight, read_length, text.split(" "))
        self.assertRaises(NotRight, read_length, [])

    def test_one_word_too_few_and_too_many(self):
        chance = random.Random(30)
        for _ in range(60):
            words = write_length(random_length(chance, 5)).split(" ")
            for at in range(len(words)):
                # Without its last word, with one more, or with an empty one, it is no length.
                self.assertRaises(NotRight, read_length, words[:-1])
                self.assertRaises(NotRight, read_length, words[:at] + [""] + words[at + 1:])
                self.assertRaises(NotRight, read_length, words + [words[at]])


class Labels(unittest.TestCase):
    def test_there_and_back(self):
        for label, word in ((("f", "a.b"), "f:a.b"), (("base", "low"), "base:low"), (("0", "-"), "0:-"), ((".", "_"), ".:_"),
                            (("a" * 60, "9" * 60), "a" * 60 + ":" + "9" * 60)):
            self.assertEqual(write_label(label), word)
            self.assertEqual(read_label(word), label)

    def test_wrong_words(self):
        for word in ("", ":", "f", "fa.b", "f:", ":f", "f:a:b", "f::a", "f:a:", ":f:a", "F:a", "f:A", "f:a b", "f:a&b", "f a:b",
                     "f:a\n", "f:a/b", "f:a;", "f:\u00e4", "a" * 61 + ":b", "a:" + "b" * 61, "f:a ", " f:a", "f:%", "f:a,b"):
            self.assertRaises(NotRight, read_label, word)


class FaceNames(unittest.TestCase):
    def test_there_and_back(self):
        for name, text in (((("f", "a.b"), ()), "f:a.b"), ((("f", "a.b"), (("f", "low"),)), "f:a.b & f:low"),
                           ((("g", "x"), (("a", "z"), ("b", "a"), ("b", "b"))), "g:x & a:z & b:a & b:b"),
                           ((("g", "x"), (("g", "x"),)), "g:x & g:x")):
            self.assertTrue(is_face_name(name))
            self.assertEqual(write_face_name(name), text)
            self.assertEqual(read_face_name(text.split(" ")), name)

    def test_marks_ascend_as_tuples(self):
        # As strings with colons the other one would be less: a dash comes ahead of a colon.
        name = (("f", "x"), (("a", "z"), ("a-b", "c")))
        self.assertEqual(read_face_name(write_face_name(name).split(" ")), name)
        self.assertRaises(NotRight, read_face_name, "f:x & a-b:c & a:z".split(" "))

    def test_wrong_words(self):
        for text in ("", "f", "f:x &", "f:x & ", "& f:x", "f:x f:y", "f:x f:y f:z", "f:x & f:y f:z", "f:x & f:y &", "f:x && f:y",
                     "f:x & f:b & f:a", "f:x & f:a & f:a", "f:x & f", "f:x & & f:a", "f:x + f:a", "f:x , f:a", "f:x  & f:a",
                     "f:x & f:a ", " f:x", "f: & f:a", "f:x & f:A", "x & f:a", "f:x & f:a & f:b & f:a", "f:x and f:a"):
            self.assertRaises(NotRight, read_face_name, text.split(" "))
        self.assertRaises(NotRight, read_face_name, [])


SAMPLES = (
    (("fix", "a", ONE, ("of", "w")), "fix a num 1 of w"),
    (("level", "a", "b"), "level a b"),
    (("plumb", "a", "b"), "plumb a b"),
    (("across", "a", "b", ("times", ratio(2), ("of", "w"))), "across a b times 2 of w"),
    (("up", "a", "b", ("plus", ("of", "w"), ONE)), "up a b plus of w num 1"),
    (("even", "a", "b", "c", "d"), "even a b c d"),
    (("turn", "a", "b", "c", "d"), "turn a b c d"),
    (("part", "c", "a", "b", ratio(1, 2)), "part c a b 1/2"),
    (("wide", "a", "b", "c", "d", ratio(-3)), "wide a b c d -3"),
    (("high", "a", "b", "c", "d", ratio(0)), "high a b c d 0"),
    (("span", "a", "b", num(25)), "span a b num 25"),
)


class Constraints(unittest.TestCase):
    def test_each_word_there_and_back(self):
        self.assertEqual({constraint[0] for constraint, _ in SAMPLES}, set(FORMS))
        for constraint, text in SAMPLES:
            self.assertTrue(is_constraint(constraint, ("a", "b", "c", "d")))
            self.assertEqual(write_constraint(constraint), text)
            self.assertEqual(read_constraint(text.split(" ")), constraint)

    def test_tuples_that_are_no_constraints_of_a_sketch(self):
        for text, constraint in (("level a a", ("level", "a", "a")), ("part a a a 1", ("part", "a", "a", "a", ratio(1))),
                                 ("level zz q", ("level", "zz", "q")), ("even a a b b", ("even", "a", "a", "b", "b")),
                                 ("span n1 n1 num -4", ("span", "n1", "n1", num(-4))), ("level of num", ("level", "of", "num")),
                                 ("turn abcdefghijkl a b2 a", ("turn", "abcdefghijkl", "a", "b2", "a"))):
            self.assertEqual(read_constraint(text.split(" ")), constraint)
            self.assertEqual(write_constraint(constraint), text)

    def test_each_point_is_a_name(self):
        for constraint, text in SAMPLES:
            words = text.split(" ")
            many = FORMS[constraint[0]][0]
            for at in range(1, 1 + many):
                self.assertEqual(read_constraint(words[:at] + ["abcdefghijk9"] + words[at + 1:])[at], "abcdefghijk9")
                for wrong in ("1", "1a", "A", "aB", "a.b", "a-b", "a_b", "a:b", "-", ".", "", "abcdefghijklm", "\u00e4", "a\n", "9" * 60):
                    self.assertRaises(NotRight, read_constraint, words[:at] + [wrong] + words[at + 1:])

    def test_wrong_words(self):
        for text in ("", "ask level a b", "Level a b", "lvl a b", "a b", "level", "level a", "level a b c", "level a b ", "level a ",
                     "level  b", "level A b", "plumb a b num 1", "across a b", "across a b 1", "across a b num", "across a b num 1 2",
                     "across a b num 1 num 2", "up a num 1", "up a b of", "fix a num 1", "fix a num 1 num", "fix a num 1 num 2 num 3",
                     "fix a b num 1 num 2", "fix num 1 num 2", "even a b c", "even a b c d e", "turn a b", "part m p q", "part m p 1/2",
                     "part m p q 2/4", "part m p q 1 2", "part m p q num 1", "wide a b c d", "wide a b c d x", "wide a b c d 1 1",
                     "high a b c 1", "high a b c d 01", "span a b", "span a b num 1 num 1", "span a b of W"):
            self.assertRaises(NotRight, read_constraint, text.split(" "))
        self.assertRaises(NotRight, read_constraint, [])

    def test_lengths_that_are_too_deep(self):
        words = "across a b ".split(" ")[:3] + write_length(nested(8)).split(" ")
        self.assertEqual(read_constraint(words)[3], nested(8))
        self.assertRaises(NotRight, read_constraint, words[:3] + write_length(nested(9)).split(" "))

    def test_parts_too_few_and_too_many(self):
        for _, text in SAMPLES:
            words = text.split(" ")
            self.assertRaises(NotRight, read_constraint, words[:-1])
            self.assertRaises(NotRight, read_constraint, words + ["a"])
            self.assertRaises(NotRight, read_constraint, words + ["1"])
            for at in range(len(words)):
                self.assertRaises(NotRight, read_constraint, words[:at] + [""] + words[at + 1:])
                self.assertRaises(NotRight, read_constraint, words[:at] + [""] + words[at:])
                self.assertRaises(NotRight, read_constraint, words[:at])

    def test_lists_are_not_changed(self):
        words = "fix a num 1 of w".split(" ")
        read_constraint(words)
        self.assertEqual(words, "fix a num 1 of w".split(" "))


if __name__ == "__main__":
    unittest.main()
