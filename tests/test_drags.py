import copy
import random
import unittest
from fractions import Fraction

from mitrehouse.drags import accepts_drag, drag_paper, dragged, moved_far
from mitrehouse.errors import NotRight, NotThere
from mitrehouse.linear import fulfils, made, solve
from mitrehouse.ratios import ratio
from mitrehouse.settling import settle
from mitrehouse.sketches import is_shape, sketch_rows, unknowns_of
from samples import ONE, as_ratio, box_sketch, fraction, num

W = ("of", "w")
LINE = (("a", "b"), (("level", "a", "b"),))
BOX = (("a", "b", "c", "d"), (("level", "a", "b"), ("plumb", "b", "c"), ("level", "c", "d"), ("plumb", "d", "a")))
STIFF = box_sketch(W, ONE)
FREE = (("a", "b"), ())
NUMBERS = {"w": ratio(3)}


def place(x, y):
    return (as_ratio(Fraction(x)), as_ratio(Fraction(y)))


def shape_of(**places):
    return {name: place(*pair) for name, pair in places.items()}


SQUARE = shape_of(a=(0, 0), b=(2, 0), c=(2, 2), d=(0, 2))


def values(shape):
    return {name + side: fraction(one) for name, pair in shape.items() for side, one in zip((".x", ".y"), pair)}


def wish_rows(wishes):
    return [((((point + side), (1, 1)),), one) for point in sorted(wishes) for side, one in zip((".x", ".y"), wishes[point])]


def random_sketch(chance):
    points = "abcd"
    constraints = []
    for _ in range(chance.randint(0, 4)):
        p, q, r, s = chance.sample(points, 4)
        constraints.append(chance.choice([
            ("level", p, q), ("plumb", p, q), ("across", p, q, W), ("up", p, q, num(chance.randint(-2, 2))),
            ("even", p, q, r, s), ("turn", p, q, r, s), ("part", r, p, q, ratio(chance.randint(1, 5), 3)),
            ("wide", p, q, r, s, ratio(chance.randint(-2, 2))), ("high", p, q, r, s, ratio(1, 2)),
            ("fix", p, num(chance.randint(-2, 2)), W)]))
    return (tuple(points), tuple(constraints))


def random_places(chance, points):
    return {point: place(Fraction(chance.randint(-6, 6), 2), chance.randint(-3, 3)) for point in points}


class Dragged(unittest.TestCase):
    def check(self, sketch, shape, wishes, numbers=None):
        """Checks that a drag fulfils all, and that no direction in which it may move leads nearer."""
        numbers = NUMBERS if numbers is None else numbers
        before = copy.deepcopy((sketch, shape, wishes, numbers))
        found = dragged(sketch, numbers, shape, wishes)
        self.assertTrue(is_shape(sketch, numbers, found))
        self.assertTrue(all(found[point] == wishes[point] for point in wishes))
        rows = sketch_rows(sketch, numbers) + wish_rows(wishes)
        solved = solve(rows, unknowns_of(sketch))
        start, end = values(shape), values(found)
        for way in solved[2] if solved[0] == "free" else []:
            # The way back to the told shape stands at right angles to all free directions.
            self.assertEqual(sum((end[one] - start[one]) * fraction(way[one]) for one in way), 0)
        self.assertEqual(fraction(moved_far(shape, found)), sum((end[one] - start[one]) ** 2 for one in start))
        paper = drag_paper(sketch, numbers, shape, wishes)
        self.assertEqual(len(paper), len(rows))
        self.assertIs(accepts_drag(sketch, numbers, shape, wishes, found, paper), True)
        # A drag again from its own places moves nothing.
        self.assertEqual(dragged(sketch, numbers, found, wishes), found)
        self.assertEqual((sketch, shape, wishes, numbers), before)
        return found

    def test_no_wish(self):
        self.assertEqual(self.check(BOX, SQUARE, {}), SQUARE)
        tilted = shape_of(a=(0, 1), b=(4, 3))
        self.assertEqual(self.check(LINE, tilted, {}), shape_of(a=(0, 2), b=(4, 2)))
        self.assertEqual(self.check(FREE, tilted, {}), tilted)

    def test_wishes_that_are_met_already(self):
        self.assertEqual(self.check(BOX, SQUARE, {"a": place(0, 0), "c": place(2, 2)}), SQUARE)

    def test_one_that_moves_others(self):
        self.assertEqual(self.check(LINE, shape_of(a=(0, 0), b=(3, 0)), {"b": place(3, 2)}), shape_of(a=(0, 2), b=(3, 2)))
        # The corner c takes those beside it along, the one across stays.
        self.assertEqual(self.check(BOX, SQUARE, {"c": place(5, 3)}), shape_of(a=(0, 0), b=(5, 0), c=(5, 3), d=(0, 3)))
        even = (BOX[0], BOX[1] + (("even", "a", "b", "d", "c"), ("across", "a", "b", W), ("up", "a", "d", W)))
        self.assertEqual(self.check(even, shape_of(a=(0, 0), b=(3, 0), c=(3, 3), d=(0, 3)), {"a": place(1, -7)}),
                         shape_of(a=(1, -7), b=(4, -7), c=(4, -4), d=(1, -4)))

    def test_all_points(self):
        there = shape_of(a=(1, 1), b=(7, 1), c=(7, 9), d=(1, 9))
        self.assertEqual(self.check(BOX, SQUARE, there), there)

    def test_a_stiff_sketch(self):
        only = settle(STIFF, NUMBERS)[1]
        self.assertEqual(self.check(STIFF, SQUARE, {}), only)
        self.assertEqual(self.check(STIFF, SQUARE, {"c": only["c"]}), only)
        self.assertEqual(self.check(STIFF, only, {}), only)

    def test_a_free_sketch(self):
        self.assertEqual(self.check(FREE, shape_of(a=(0, 0), b=(1, 1)), {"a": place(5, 6)}), shape_of(a=(5, 6), b=(1, 1)))

    def test_a_constraint_that_is_said_twice(self):
        twice = (BOX[0], BOX[1] + (("level", "b", "a"), ("level", "a", "b")))
        self.assertEqual(self.check(twice, SQUARE, {"c": place(5, 3)}), self.check(BOX, SQUARE, {"c": place(5, 3)}))

    def test_a_shape_that_is_far_off(self):
        wild = shape_of(a=(100, Fraction(1, 3)), b=(-7, 50), c=(0, 0), d=(Fraction(22, 7), -9))
        self.check(BOX, wild, {})
        self.check(BOX, wild, {"d": place(1, 1)})
        self.assertEqual(self.check(STIFF, wild, {}), settle(STIFF, NUMBERS)[1])

    def test_wishes_and_rows_that_no_shape_fulfils(self):
        clash = (LINE[0], LINE[1] + (("up", "a", "b", ONE),))
        for sketch, wishes in ((LINE, {"a": place(0, 0), "b": place(1, 1)}), (STIFF, {"a": place(0, 1)}),
                               (clash, {}), (clash, {"a": place(0, 0)})):
            shape = {point: place(0, 0) for point in sketch[0]}
            for ask in (dragged, drag_paper):
                with self.assertRaises(NotThere):
                    ask(sketch, NUMBERS, shape, wishes)
            rows = len(sketch_rows(sketch, NUMBERS)) + 2 * len(wishes)
            self.assertIs(accepts_drag(sketch, NUMBERS, shape, wishes, shape, [ratio(0)] * rows), False)

    def test_random_sketches(self):
        chance = random.Random(122)
        tried = 0
        for _ in range(120):
            sketch = random_sketch(chance)
            shape, numbers = random_places(chance, sketch[0]), {"w": ratio(chance.randint(-2, 2))}
            wishes = random_places(chance, chance.sample("abcd", chance.randint(0, 2)))
            rows = sketch_rows(sketch, numbers) + wish_rows(wishes)
            if solve(rows, unknowns_of(sketch))[0] == "none":
                with self.assertRaises(NotThere):
                    dragged(sketch, numbers, shape, wishes)
            else:
                tried += 1
                self.check(sketch, shape, wishes, numbers)
        self.assertGreater(tried, 60)

    def test_moved_far(self):
        self.assertEqual(moved_far(SQUARE, SQUARE), ratio(0))
        self.assertEqual(moved_far(shape_of(a=(0, 0), b=(1, 1)), shape_of(b=(Fraction(1, 2), 4), a=(-2, 1))), ratio(57, 4))
        self.assertEqual(moved_far({}, {}), ratio(0))

    def test_answers_are_new(self):
        dragged(BOX, NUMBERS, SQUARE, {}).clear()
        self.assertEqual(dragged(BOX, NUMBERS, SQUARE, {}), SQUARE)
        self.assertEqual(len(SQUARE), 4)


class Papers(unittest.TestCase):
    def setUp(self):
        self.wishes = {"c": place(5, 3), "a": place(-1, 0)}
        self.sketch = (BOX[0], BOX[1] + (("level", "d", "c"),))
        self.drag = dragged(self.sketch, {}, SQUARE, self.wishes)
        self.paper = drag_paper(self.sketch, {}, SQUARE, self.wishes)

    def accepted(self, drag, paper, sketch=None, shape=None, wishes=None):
        return accepts_drag(sketch or self.sketch, {}, shape or SQUARE, wishes or self.wishes, drag, paper)

    def test_rows_of_wishes_ascend(self):
        # Behind the five rows of the sketch come x and y of a, then those of c.
        self.assertEqual(len(self.paper), 9)
        rows = sketch_rows(self.sketch, {}) + wish_rows(self.wishes)
        terms = dict(made(rows, self.paper)[0])
        for name, pair in self.drag.items():
            for axis, side in enumerate((".x", ".y")):
                self.assertEqual(fraction(terms.get(name + side, ratio(0))),
                                 fraction(pair[axis]) - fraction(SQUARE[name][axis]))

    def test_split_otherwise_between_equal_rows(self):
        # The third row and the fifth one say the same, the other way round.
        for share in (Fraction(1), Fraction(-5, 3)):
            other = list(self.paper)
            other[2] = as_ratio(fraction(self.paper[2]) + share)
            other[4] = as_ratio(fraction(self.paper[4]) + share)
            self.assertNotEqual(other, self.paper)
            self.assertIs(self.accepted(self.drag, other), True)

    def test_another_factor(self):
        for k in range(len(self.paper)):
            changed = self.paper[:k] + [as_ratio(fraction(self.paper[k]) + 1)] + self.paper[k + 1:]
            self.assertIs(self.accepted(self.drag, changed), False, k)
            self.assertIs(self.accepted(self.drag, self.paper[:k] + self.paper[k + 1:]), False)
            self.assertIs(self.accepted(self.drag, self.paper[:k] + [ratio(0)] + self.paper[k:]), False)
        self.assertIs(self.accepted(self.drag, []), False)
        self.assertIs(self.accepted(self.drag, self.paper + [ratio(0)]), False)

    def test_another_drag(self):
        for name in "abcd":
            for axis in (0, 1):
                other = copy.deepcopy(self.drag)
                pair = list(other[name])
                pair[axis] = as_ratio(fraction(pair[axis]) + 1)
                other[name] = tuple(pair)
                self.assertIs(self.accepted(other, self.paper), False)
        self.assertIs(self.accepted({}, self.paper), False)
        self.assertIs(self.accepted({**self.drag, "e": place(0, 0)}, self.paper), False)
        self.assertIs(self.accepted({name: self.drag[name] for name in "abc"}, self.paper), False)

    def test_points_in_any_order(self):
        drag, shape = [{name: told[name] for name in "dbac"} for told in (self.drag, SQUARE)]
        wishes = {name: self.wishes[name] for name in "ca"}
        self.assertIs(self.accepted(drag, self.paper, shape=shape, wishes=wishes), True)
        self.assertEqual(drag_paper(self.sketch, {}, shape, wishes), self.paper)
        self.assertEqual(dragged(self.sketch, {}, shape, wishes), self.drag)

    def test_a_shape_that_fulfils_all_but_is_not_the_nearest(self):
        drag, paper = dragged(LINE, {}, shape_of(a=(0, 1), b=(4, 3)), {}), drag_paper(LINE, {}, shape_of(a=(0, 1), b=(4, 3)), {})
        self.assertEqual(drag, shape_of(a=(0, 2), b=(4, 2)))
        for other in (shape_of(a=(0, 1), b=(4, 1)), shape_of(a=(0, 3), b=(4, 3)), shape_of(a=(1, 2), b=(4, 2))):
            for factor in (fraction(paper[0]), 0, 2, -2):
                self.assertIs(accepts_drag(LINE, {}, shape_of(a=(0, 1), b=(4, 3)), {}, other, [as_ratio(Fraction(factor))]),
                              False)
        # What factors make of the rows, but the rows are not true of it.
        self.assertIs(accepts_drag(LINE, {}, shape_of(a=(0, 1), b=(4, 3)), {}, shape_of(a=(0, 1), b=(4, 3)), [ratio(0)]), False)

    def test_for_another_shape_or_wish(self):
        self.assertIs(self.accepted(self.drag, self.paper, shape={**SQUARE, "b": place(2, 1)}), False)
        self.assertIs(self.accepted(self.drag, self.paper, wishes={**self.wishes, "c": place(5, 4)}), False)
        self.assertIs(self.accepted(self.drag, self.paper, wishes={"c": place(5, 3), "b": place(5, 0)}), False)
        # The fourth point where it is then: its rows are true, but the paper has no factors for them.
        self.assertIs(self.accepted(self.drag, self.paper, wishes={**self.wishes, "b": self.drag["b"]}), False)
        self.assertIs(self.accepted(self.drag, self.paper + [ratio(0)] * 2, wishes={**self.wishes, "d": self.drag["d"]}), True)

    def test_answers_are_new(self):
        drag_paper(self.sketch, {}, SQUARE, self.wishes).clear()
        self.assertEqual(drag_paper(self.sketch, {}, SQUARE, self.wishes), self.paper)
        self.assertTrue(fulfils(sketch_rows(self.sketch, {}), {one: as_ratio(at) for one, at in values(self.drag).items()}))


class Errors(unittest.TestCase):
    def check(self, error, sketch, numbers, shape, wishes):
        for ask in (lambda: dragged(sketch, numbers, shape, wishes), lambda: drag_paper(sketch, numbers, shape, wishes),
                    lambda: accepts_drag(sketch, numbers, shape, wishes, shape, [])):
            self.assertRaises(error, ask)

    def test_not_right(self):
        for value in (None, (), (("a",),), (("a", "b"), (("level", "a", "z"),))):
            self.check(NotRight, value, {}, SQUARE, {})
        spanned = (STIFF[0], STIFF[1] + (("span", "a", "b", W),))
        self.check(NotRight, spanned, {}, SQUARE, {})
        self.check(NotRight, spanned, NUMBERS, SQUARE, {})
        for shape in ({}, shape_of(a=(0, 0)), {**SQUARE, "e": place(0, 0)}, shape_of(a=(0, 0), b=(0, 0), c=(0, 0), e=(0, 0))):
            # Ahead of a number that lacks.
            self.check(NotRight, STIFF, {}, shape, {})
        for wishes in ({"e": place(0, 0)}, {"a": place(0, 0), "": place(0, 0)}):
            self.check(NotRight, STIFF, {}, SQUARE, wishes)

    def test_not_there(self):
        # Ahead of wishes that no shape fulfils.
        self.check(NotThere, STIFF, {}, SQUARE, {"a": place(9, 9)})
        self.check(NotThere, STIFF, {"v": ratio(1)}, SQUARE, {})
        self.assertIs(accepts_drag(FREE, {}, shape_of(a=(0, 0), b=(0, 0)), {}, shape_of(a=(0, 0), b=(0, 0)), []), True)


if __name__ == "__main__":
    unittest.main()
