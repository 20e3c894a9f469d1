import copy
import random
import unittest

from mitrehouse.bodies import EMPTY, cut, joined
from mitrehouse.choosing import chosen, is_choice, read_choice, write_choice
from mitrehouse.errors import Malformed
from mitrehouse.faces import face_area, face_plane, faces, marks_of
from mitrehouse.ratios import is_less, ratio
from samples import block, grid_body
from test_bodies import random_body
from test_edges import facets_at

BOX = block((0, 0, 0), (2, 1, 1))
# A box, a box of other labels on it, and a hole.
BODY = cut(joined(block((0, 0, 0), (4, 4, 2)), block((1, 1, 2), (2, 3, 5), "g")), block((3, 0, 0), (4, 1, 1), "s0"))


def nested(depth, word="not"):
    """Returns a choice that is nested so deep."""
    return ("looks", 5) if depth == 1 else (word, nested(depth - 1, word))


def slow_neighbours(body):
    """Returns for each face the set of its neighbours, by the facets around each side line."""
    index_of = {(place, face[1]): index for index, face in enumerate(faces(body)) for place in face[2]}
    near = [set() for _ in faces(body)]
    for axis in range(3):
        u, v = (axis + 1) % 3, (axis + 2) % 3
        for i in range(len(body[u])):
            for j in range(len(body[v])):
                for k in range(len(body[axis]) - 1):
                    there = {index_of[facet] for facet in facets_at(body, axis, i, j, k)[1]}
                    for index in there:
                        near[index] |= there - {index}
    return near


def slow_has(body, index, choice, near):
    face = faces(body)[index]
    word = choice[0]
    if word == "looks":
        return face[1] == choice[1]
    if word in ("of", "side"):
        return face[0][0 if word == "of" else 1] == choice[1]
    if word in ("area", "plane"):
        one = face_area(body, face) if word == "area" else face_plane(body, face)
        return not is_less(one, choice[1]) and not is_less(choice[2], one)
    if word == "beside":
        return any(slow_has(body, other, choice[1], near) for other in near[index])
    if word == "not":
        return not slow_has(body, index, choice[1], near)
    both = [slow_has(body, index, part, near) for part in choice[1:]]
    return all(both) if word == "and" else any(both)


def random_choice(chance, depth):
    words = ["looks", "of", "side", "area", "plane"] + (["beside", "not", "and", "or"] * 2 if depth > 1 else [])
    word = chance.choice(words)
    if word == "looks":
        return (word, chance.randint(0, 5))
    if word in ("of", "side"):
        return (word, chance.choice(["f", "g", "s0", "s1a", "s3b", "s5", ""]))
    if word in ("area", "plane"):
        return (word, ratio(chance.randint(-2, 6), chance.randint(1, 3)), ratio(chance.randint(-1, 9)))
    return (word,) + tuple(random_choice(chance, depth - 1) for _ in range(1 if word in ("beside", "not") else 2))


class IsChoice(unittest.TestCase):
    def test_each_word(self):
        for value in (("looks", 0), ("looks", 5), ("of", "f"), ("of", ""), ("of", "A b"), ("side", "a.b"),
                      ("area", ratio(1), ratio(0)), ("plane", ratio(-1, 2), ratio(1, 3)), ("beside", ("looks", 1)),
                      ("not", ("of", "f")), ("and", ("looks", 1), ("of", "f")), ("or", ("of", "f"), ("of", "f"))):
            self.assertIs(is_choice(value), True)

    def test_depth(self):
        self.assertIs(is_choice(nested(6)), True)
        self.assertIs(is_choice(nested(7)), False)
        self.assertIs(is_choice(("or", nested(5), nested(5, "beside"))), True)
        self.assertIs(is_choice(("or", nested(5), nested(6, "beside"))), False)
        self.assertIs(is_choice(("or", nested(6), ("looks", 1))), False)

    def test_what_is_near_one(self):
        for value in (("looks", 6), ("looks", -1), ("looks", True), ("looks", False), ("looks", "1"), ("looks",),
                      ("looks", 1, 2), ("of", None), ("of", 1), ("of", ("f",)), ("of", b"f"), ("of", "f", "g"), ("of",),
                      ("side", 3), ("side",), ("area", ratio(1)), ("area", ratio(1), (2, 4)), ("area", (1, 0), ratio(1)),
                      ("area", 1, 2), ("area", [1, 1], ratio(1)), ("plane", ratio(1), None), ("plane", (True, 1), ratio(1)),
                      ("beside",), ("beside", "f"), ("beside", ("looks", 1), ("looks", 1)), ("not", None),
                      ("not", ["looks", 1]), ("and", ("looks", 1)), ("and", ("looks", 1), None),
                      ("or", ("looks", 7), ("looks", 1)), ("xor", ("looks", 1), ("looks", 1)), ["looks", 1], (), None, "looks",
                      5, (("looks", 1),), (1, 2), ([], 1)):
            self.assertIs(is_choice(value), False, value)


class Chosen(unittest.TestCase):
    def check(self, body, choice):
        before = copy.deepcopy((body, choice))
        near = slow_neighbours(body)
        found = chosen(body, choice)
        self.assertEqual(found, [index for index in range(len(faces(body))) if slow_has(body, index, choice, near)])
        self.assertEqual((body, choice), before)
        return found

    def test_looks(self):
        for direction in range(6):
            self.assertEqual(self.check(BOX, ("looks", direction)), [direction])
            self.check(BODY, ("looks", direction))

    def test_of_and_side(self):
        self.assertEqual(self.check(BOX, ("of", "f")), [0, 1, 2, 3, 4, 5])
        self.assertEqual(self.check(BOX, ("side", "s3")), [3])
        # The same strings in the other place.
        self.assertEqual((self.check(BOX, ("of", "s3")), self.check(BOX, ("side", "f"))), ([], []))
        self.assertEqual(len(self.check(BODY, ("of", "g"))), 5)
        self.assertEqual(len(self.check(BODY, ("of", "s0"))), 3)
        self.assertEqual(self.check(BODY, ("of", "")), [])

    def test_bounds_at_the_area_and_just_beside(self):
        near = ratio(1, 1000)
        self.assertEqual(self.check(BOX, ("area", ratio(1), ratio(1))), [0, 1])
        self.assertEqual(self.check(BOX, ("area", ratio(2), ratio(2))), [2, 3, 4, 5])
        self.assertEqual(self.check(BOX, ("area", ratio(1), ratio(1999, 1000))), [0, 1])
        self.assertEqual(self.check(BOX, ("area", ratio(1001, 1000), ratio(2))), [2, 3, 4, 5])
        self.assertEqual(self.check(BOX, ("area", ratio(0), ratio(999, 1000))), [])
        self.assertEqual(self.check(BOX, ("area", ratio(2001, 1000), ratio(9))), [])
        self.assertEqual(self.check(BOX, ("area", ratio(2), ratio(1))), [])
        self.assertEqual(self.check(BOX, ("plane", ratio(0), ratio(0))), [0, 2, 4])
        self.assertEqual(self.check(BOX, ("plane", ratio(1), ratio(1))), [3, 5])
        self.assertEqual(self.check(BOX, ("plane", ratio(2), ratio(2))), [1])
        self.assertEqual(self.check(BOX, ("plane", near, ratio(999, 1000))), [])
        self.assertEqual(self.check(BOX, ("plane", ratio(2), ratio(0))), [])
        self.assertEqual(self.check(BOX, ("plane", ratio(-5), ratio(5))), [0, 1, 2, 3, 4, 5])

    def test_beside(self):
        self.assertEqual(self.check(BOX, ("beside", ("looks", 5))), [0, 1, 2, 3])
        self.assertEqual(self.check(BOX, ("beside", ("of", "g"))), [])
        self.assertEqual(self.check(BOX, ("beside", ("of", "f"))), [0, 1, 2, 3, 4, 5])
        # Two boxes apart: what is a neighbour of nothing of the other one.
        apart = joined(block((0, 0, 0), (1, 1, 1)), block((5, 0, 0), (6, 1, 1), "g"))
        self.assertEqual(len(self.check(apart, ("beside", ("of", "g")))), 6)
        self.assertEqual(self.check(apart, ("and", ("of", "f"), ("beside", ("of", "g")))), [])

    def test_not_and_or(self):
        self.assertEqual(self.check(BOX, ("not", ("looks", 5))), [0, 1, 2, 3, 4])
        self.assertEqual(self.check(BOX, ("and", ("looks", 5), ("looks", 4))), [])
        self.assertEqual(self.check(BOX, ("or", ("looks", 5), ("looks", 4))), [4, 5])
        self.assertEqual(self.check(BOX, ("not", ("beside", ("not", ("looks", 5))))), [])

    def test_random_choices(self):
        chance = random.Random(151)
        bodies = [BOX, BODY, EMPTY, grid_body([(0, 0, 0), (1, 1, 0), (1, 1, 1)])] + [random_body(chance, "f") for _ in range(4)]
        for _ in range(150):
            choice = random_choice(chance, 6)
            self.assertIs(is_choice(choice), True)
            self.check(chance.choice(bodies), choice)

    def test_neighbours_are_those_of_the_marks(self):
        for label in {face[0] for face in faces(BODY)}:
            wanted = [index for index, marks in enumerate(marks_of(BODY)) if label in marks]
            self.assertEqual(chosen(BODY, ("beside", ("and", ("of", label[0]), ("side", label[1])))), wanted)


class Texts(unittest.TestCase):
    def test_written(self):
        for choice, text in ((("looks", 3), "looks 3"), (("of", "base"), "of base"), (("side", "a.b"), "side a.b"),
                             (("area", ratio(-1, 2), ratio(3)), "area -1/2 3"), (("plane", ratio(0), ratio(7, 3)), "plane 0 7/3"),
                             (("beside", ("side", "high")), "beside side high"), (("not", ("looks", 0)), "not looks 0"),
                             (("and", ("looks", 5), ("area", ratio(1), ratio(3))), "and looks 5 area 1 3"),
                             (("or", ("not", ("of", "a")), ("of", "or")), "or not of a of or"), (("of", ""), "of ")):
            self.assertEqual(write_choice(choice), text)
            self.assertEqual(read_choice(text), choice)

    def test_there_and_back(self):
        chance = random.Random(160)
        for _ in range(200):
            choice = random_choice(chance, 6)
            self.assertEqual(read_choice(write_choice(choice)), choice)

    def test_each_word_may_be_a_string(self):
        for word in ("looks", "and", "7", "", "A", "a:b", "&"):
            self.assertEqual(read_choice("not of " + word), ("not", ("of", word)))
            self.assertEqual(read_choice(f"and side {word} looks 1"), ("and", ("side", word), ("looks", 1)))

    def test_malformed(self):
        for text, at in (("", 0), (" ", 0), ("loks 5", 0), ("Looks 5", 0), (" looks 5", 0), ("5", 0), ("looks 6", 1),
                         ("looks -1", 1), ("looks 05", 1), ("looks 10", 1), ("looks x", 1), ("looks", 1), ("looks ", 1),
                         ("looks  5", 1), ("looks 5 ", 2), ("looks 5 looks 5", 2), ("of", 1), ("of a b", 2), ("side", 1),
                         ("area 1", 2), ("area", 1), ("area 1 x", 2), ("area 1/2 2/4", 2), ("area 01 2", 1), ("area 1.5 2", 1),
                         ("area -0 2", 1), ("area  1 2", 1), ("plane 1 2 3", 3), ("plane +1 2", 1), ("beside", 1), ("not", 1),
                         ("not x", 1), ("and looks 1", 3), ("and looks 1 x", 3), ("and x looks 1", 1), ("or of of of", 4),
                         ("or looks 1 looks", 4), ("or looks 1 looks 9", 4), ("and looks 1 looks 2 looks 3", 5),
                         ("area " + "9" * 31 + " 1", 1), ("not  looks 1", 1)):
            with self.assertRaises(Malformed, msg=text) as caught:
                read_choice(text)
            self.assertEqual(caught.exception.at, at, text)
        self.assertEqual(read_choice("area " + "9" * 30 + " 1")[1], (10 ** 30 - 1, 1))

    def test_nested_too_deep(self):
        self.assertEqual(read_choice("not " * 5 + "looks 1"), ("not", ("not", ("not", ("not", ("not", ("looks", 1)))))))
        deep = "and looks 1 " * 5
        self.assertEqual(write_choice(read_choice(deep + "looks 1")), deep + "looks 1")
        for text, at in (("not " * 6 + "looks 1", 6), ("not " * 6 + "x", 6), ("not " * 7, 6), ("not " * 5 + "not", 6),
                         (deep + "and looks 1 looks 2", 16), ("or looks 1 " + "beside " * 5 + "looks 1", 8)):
            with self.assertRaises(Malformed) as caught:
                read_choice(text)
            self.assertEqual(caught.exception.at, at, text)


if __name__ == "__main__":
    unittest.main()
