import copy
import random
import unittest

from mitrehouse.checksketch import takes_drag, takes_shape, takes_told
from mitrehouse.drags import accepts_drag, drag_paper, dragged
from mitrehouse.errors import NotRight, NotThere
from mitrehouse.ratios import ratio, times
from mitrehouse.settling import accepts, paper_of, settle
from mitrehouse.sketches import is_shape
from changes import changed
from samples import ONE, ZERO, box_sketch, num
from test_drags import BOX, FREE, LINE, NUMBERS, SQUARE, STIFF, random_places, shape_of
from test_drags import random_sketch as random_drag_sketch
from test_settling import CASES, FIX, LEVEL, ROD, W, of, place, random_sketch

NOUGHT = (0, 1)
EACH_WORD = of("abcd", FIX, LEVEL, ("plumb", "b", "c"), ("across", "a", "b", W), ("up", "b", "c", ("plus", W, ONE)),
               ("even", "a", "b", "d", "c"), ("part", "d", "a", "c", ratio(1, 2)), ("wide", "a", "b", "d", "c", ratio(1)),
               ("high", "a", "d", "b", "c", ratio(1)), ("turn", "a", "b", "c", "d"), ("span", "a", "b", ("times", ratio(3), W)))


def wrong_sketches():
    """Values that are near sketches and are none."""
    yield from (None, (), ("a", "b"), (("a",),), (("a",), (), ()), [("a",), ()], (["a"], ()), (("a",), []), ((), ()),
                (("b", "a"), ()), (("a", "a"), ()), (("A",), ()), (("a", 1), ()), (("a", "1b"), ()), ("ab", ()), (("a",), None))
    yield tuple(f"p{k:02d}" for k in range(25)), ()
    yield of("ab", *[LEVEL] * 41)
    yield of("abcdefghijklm"[:0], LEVEL)
    for constraint in (("level", "a", "a"), ("level", "a"), ("level", "a", "b", "c"), ("level", "a", "z"), ["level", "a", "b"],
                       ("flat", "a", "b"), (), None, "level", ("plumb", "a", None), ("across", "a", "b"), ("across", "a", "b", ratio(1)),
                       ("across", "a", "b", ("num", (2, 2))), ("across", "a", "b", ("num", 1)), ("up", "a", "b", ("of", "W")),
                       ("up", "a", "b", ("of", "w", "h")), ("up", "a", "b", ("plus", W)), ("up", "a", "b", ("times", W, W)),
                       ("up", "a", "b", ("over", W, W)), ("up", "a", "b", ("plus", W, None)), ("up", "a", "b", ("minus", None, W)),
                       ("up", "a", "b", ("plus", W, ("num", 1))), ("up", "a", "b", ("times", ratio(1), None)), ("up", "a", "b", ("times", (2, 2), W)),
                       ("up", "a", "b", ("off", "w")), ("up", "a", "b", ("of",)), ("up", "a", "b", ("plus", W, W, W)), ("up", "a", "b", ()),
                       ("up", "a", "b", left(9)), ("up", "a", "b", scaled(9)), ("up", "a", "b", right(9)), ("up", "a", "b", ["of", "w"]), ("fix", "a", ZERO), ("fix", "a", ZERO, None),
                       ("fix", "z", ZERO, ZERO), ("even", "a", "b", "c", "c"), ("even", "a", "a", "b", "c"), ("turn", "a", "b", "c"),
                       ("part", "a", "a", "b", ratio(1)), ("part", "c", "a", "a", ratio(1)), ("part", "a", "b", "a", ratio(1)),
                       ("part", "a", "b", "c", ("num", ratio(1))), ("part", "a", "b", "c", (1, 0)), ("part", "a", "b", "c", (True, 1)),
                       ("wide", "a", "b", "a", "b"), ("wide", "a", "b", "c", "c", ratio(1)), ("high", "a", "b", "b", "a", None),
                       ("span", "a", "b"), ("span", "a", "a", ONE), ("span", "a", "b", deep(9)), (1, "a", "b"), (("level",), "a", "b"), (["level"], "a", "b")):
        yield of("abc", constraint)


def deep(depth):
    return W if depth == 1 else ("minus", deep(depth - 1), ONE)


def left(depth):
    return ("num", ratio(1)) if depth == 1 else ("plus", left(depth - 1), W)


def right(depth):
    return W if depth == 1 else ("plus", ONE, right(depth - 1))


def scaled(depth):
    return W if depth == 1 else ("times", ratio(1, 2), scaled(depth - 1))


class Told(unittest.TestCase):
    def check(self, sketch, numbers):
        """Checks all that is told and its paper, and both of them changed."""
        told, paper = settle(sketch, numbers), paper_of(sketch, numbers)
        before = copy.deepcopy((sketch, numbers, told, paper))
        self.assertIs(takes_told(sketch, numbers, told, paper), True)
        others = [(wrong, paper) for wrong in changed(told)] + [(told, wrong) for wrong in changed(paper or [])]
        others += [(told, None if paper is not None else []), (told, [("a.x", [])]), (("one", {}), paper), (told + told[-1:], paper)]
        for wrong, wrong_paper in others:
            self.assertIs(takes_told(sketch, numbers, wrong, wrong_paper), accepts(sketch, numbers, wrong, wrong_paper), (wrong, wrong_paper))
        if told[:2] != ("none", "rows"):
            # Whatever else is told, with the right paper, is wrong.
            self.assertFalse(any(takes_told(sketch, numbers, wrong, paper) for wrong in changed(told)))
        self.assertEqual((sketch, numbers, told, paper), before)
        return told[0] if told[0] != "none" else told[1]

    def test_each_kind(self):
        words = {self.check(sketch, {}) for sketch in CASES.values()}
        self.assertEqual(words, {"rows", "span", "roots", "one", "some", "free", "loose"})

    def test_each_word_of_constraints(self):
        self.assertEqual(self.check(EACH_WORD, {"w": ratio(3)}), "rows")
        for k in range(len(EACH_WORD[1])):
            self.check((EACH_WORD[0], EACH_WORD[1][:k] + EACH_WORD[1][k + 1:]), {"w": ratio(3)})
            self.check((EACH_WORD[0], (FIX, EACH_WORD[1][k])), {"w": ratio(3)})
        self.check(box_sketch(W, ("times", ratio(-1, 2), W)), {"w": ratio(3)})
        for length in (deep(8), left(8), right(8), scaled(8)):
            self.check(of("ab", ("across", "a", "b", length)), {"w": ratio(3)})

    def test_the_fewest_and_the_most_points_and_constraints(self):
        points = tuple(f"p{k:02d}" for k in range(24))
        for sketch in ((points, ()), of("ab", *[LEVEL] * 40), of("a", FIX), of("a")):
            self.assertIs(takes_told(sketch, {}, settle(sketch, {}), paper_of(sketch, {})), True)

    def test_random_sketches(self):
        chance = random.Random(34)
        words = {}
        for _ in range(120):
            word = self.check(random_sketch(chance), {})
            words[word] = words.get(word, 0) + 1
        self.assertEqual(sorted(words), ["free", "loose", "one", "roots", "rows", "some", "span"])

    def test_what_is_told_of_another_sketch(self):
        chance = random.Random(35)
        sketches = [random_sketch(chance) for _ in range(25)]
        for sketch in sketches:
            for other in sketches:
                told, paper = settle(other, {}), paper_of(other, {})
                self.assertIs(takes_told(sketch, {}, told, paper), accepts(sketch, {}, told, paper))

    def test_factors_of_a_clash(self):
        sketch = CASES["rows"]
        factors = settle(sketch, {})[2]
        self.assertIs(takes_told(sketch, {}, ("none", "rows", [times(ratio(5), one) for one in factors]), None), True)
        for wrong in (factors[1:], factors + [NOUGHT], [NOUGHT] * len(factors), [], [{}] * len(factors), 2, None):
            self.assertIs(takes_told(sketch, {}, ("none", "rows", wrong), None), False)
        self.assertIs(takes_told(sketch, {}, ("none", "rows", factors), []), False)
        # No clash is told of a sketch that has a shape.
        self.assertIs(takes_told(CASES["one"], {}, ("none", "rows", [NOUGHT] * 4), None), False)
        self.assertIs(takes_told(CASES["one"], {}, ("none", "rows", [NOUGHT] * 4), paper_of(CASES["one"], {})), False)

    def test_another_frame_and_other_shapes(self):
        sketch = of("ab", FIX, ("fix", "b", ONE, ONE), ("fix", "b", ONE, ONE))
        other = [(lead, factors[:2] + factors[4:] + factors[2:4]) for lead, factors in paper_of(sketch, {})]
        self.assertNotEqual(other, paper_of(sketch, {}))
        self.assertIs(takes_told(sketch, {}, settle(sketch, {}), other), True)
        told, paper = settle(CASES["some"], {}), paper_of(CASES["some"], {})
        self.assertIs(takes_told(CASES["some"], {}, ("some", told[1][::-1]), paper), False)
        self.assertIs(takes_told(CASES["some"], {}, ("one", told[1][0]), paper), False)

    def test_errors(self):
        for wrong in wrong_sketches():
            self.assertRaises(NotRight, takes_told, wrong, {}, ("one", {}), [])
            self.assertRaises(NotRight, takes_shape, wrong, {}, {})
            self.assertRaises(NotRight, takes_drag, wrong, {}, {}, {}, {}, [])
        for constraint in (("across", "a", "b", W), ("span", "a", "b", W), ("fix", "a", ("times", NOUGHT, W), ZERO)):
            sketch = of("ab", constraint)
            self.assertRaises(NotThere, takes_told, sketch, {"v": ratio(1)}, ("none", "rows", []), None)
            self.assertRaises(NotThere, takes_shape, sketch, {}, {})
            self.assertIs(takes_told(sketch, {"w": ratio(1)}, ("one", {}), []), False)


class Shapes(unittest.TestCase):
    def check(self, sketch, numbers, shape):
        self.assertIs(takes_shape(sketch, numbers, shape), is_shape(sketch, numbers, shape))
        return takes_shape(sketch, numbers, shape)

    def test_shapes_of_each_kind(self):
        for sketch in CASES.values():
            told = settle(sketch, {})
            shapes = told[1] if told[0] == "some" else told[1:2] if told[0] in ("one", "free") else []
            for shape in shapes:
                self.assertTrue(self.check(sketch, {}, shape))
                for wrong in changed(shape):
                    self.check(sketch, {}, wrong)

    def test_some_shapes(self):
        shape = {"a": place(0, 0), "b": place(3, 0), "c": place(3, 4)}
        self.assertTrue(self.check(CASES["some"], {}, shape))
        self.assertTrue(self.check(CASES["some"], {}, {**shape, "c": place(3, -4)}))
        for wrong in ({}, {**shape, "c": place(3, 3)}, {**shape, "d": place(0, 0)}, {"a": place(0, 0), "b": place(3, 0)}):
            self.assertFalse(self.check(CASES["some"], {}, wrong))
        self.assertIs(takes_shape(CASES["some"], {}, {point: shape[point] for point in "cba"}), True)
        self.assertIs(takes_shape(ROD, {}, {**shape, "c": ((6, 2), (1, 1))}), False)
        self.assertIs(takes_shape(of("ab"), {}, {"a": place(0, 0), "b": (None, (1, 1))}), False)

    def test_random_shapes(self):
        chance = random.Random(32)
        for _ in range(200):
            sketch = random_sketch(chance)
            told = settle(sketch, {})
            shape = told[1] if told[0] in ("one", "free") else {p: place(chance.randint(0, 3), chance.randint(0, 4)) for p in sketch[0]}
            self.check(sketch, {}, shape)


class Drags(unittest.TestCase):
    def check(self, sketch, shape, wishes):
        drag, paper = dragged(sketch, NUMBERS, shape, wishes), drag_paper(sketch, NUMBERS, shape, wishes)
        given = (sketch, NUMBERS, shape, wishes)
        before = copy.deepcopy((given, drag, paper))
        self.assertIs(takes_drag(*given, drag, paper), True)
        for wrong in changed(drag):
            self.assertIs(takes_drag(*given, wrong, paper), False)
        for wrong in changed(paper):
            self.assertIs(takes_drag(*given, drag, wrong), accepts_drag(*given, drag, wrong))
        for wrong in changed(shape):
            if sorted(wrong) == sorted(shape):
                self.assertIs(takes_drag(sketch, NUMBERS, wrong, wishes, drag, paper), accepts_drag(sketch, NUMBERS, wrong, wishes, drag, paper))
        self.assertEqual((given, drag, paper), before)

    def test_drags(self):
        for sketch, shape, wishes in ((LINE, shape_of(a=(0, 0), b=(3, 0)), shape_of(b=(3, 2))), (BOX, SQUARE, shape_of(c=(3, 5))),
                                      (FREE, shape_of(a=(1, 2), b=(3, 4)), {}), (STIFF, SQUARE, {}), (BOX, SQUARE, {})):
            self.check(sketch, shape, wishes)

    def test_random_drags(self):
        chance = random.Random(123)
        many = 0
        for _ in range(80):
            sketch = random_drag_sketch(chance)
            shape = random_places(chance, sketch[0])
            wishes = random_places(chance, chance.sample(sketch[0], chance.randint(0, 2)))
            try:
                dragged(sketch, NUMBERS, shape, wishes)
            except NotThere:
                continue
            many += 1
            self.check(sketch, shape, wishes)
        self.assertGreater(many, 20)

    def test_a_shape_that_fulfils_all_but_is_not_the_nearest(self):
        shape, wishes = shape_of(a=(0, 0), b=(3, 0)), shape_of(b=(3, 2))
        paper = drag_paper(LINE, {}, shape, wishes)
        self.assertIs(takes_drag(LINE, {}, shape, wishes, shape_of(a=(0, 2), b=(3, 2)), paper), True)
        self.assertIs(takes_drag(LINE, {}, shape, wishes, shape_of(a=(1, 2), b=(3, 2)), paper), False)
        self.assertIs(takes_drag(LINE, {}, shape, wishes, shape_of(a=(0, 2), b=(3, 2)), paper + [NOUGHT]), False)
        self.assertIs(takes_drag(LINE, {}, shape, wishes, shape_of(a=(0, 2), b=(3, 2)), []), False)
        # In any order of the points.
        self.assertIs(takes_drag(LINE, {}, shape_of(b=(3, 0), a=(0, 0)), wishes, shape_of(b=(3, 2), a=(0, 2)), paper), True)

    def test_steps_that_are_made_but_do_not_lead_to_the_rows(self):
        shape = shape_of(a=(0, 1), b=(3, 0))
        self.assertIs(takes_drag(LINE, {}, shape, {}, shape, [NOUGHT]), False)
        self.assertIs(takes_drag(LINE, {}, shape, {}, shape_of(a=(0, 0), b=(3, 1)), [ratio(1)]), False)
        self.assertIs(takes_drag(LINE, {}, shape, {}, shape_of(a=(0, "1/2"), b=(3, "1/2")), [ratio(1, 2)]), True)

    def test_errors(self):
        shape = shape_of(a=(0, 0), b=(3, 0))
        spanned = (LINE[0], LINE[1] + (("span", "a", "b", W),))
        self.assertRaises(NotRight, takes_drag, spanned, {}, shape, {}, shape, [])
        for wrong in ({}, {"a": shape["a"]}, {**shape, "c": shape["a"]}):
            self.assertRaises(NotRight, takes_drag, LINE, {}, wrong, {}, shape, [NOUGHT])
            self.assertIs(takes_drag(LINE, {}, shape, {}, wrong, [NOUGHT]), False)
        self.assertRaises(NotRight, takes_drag, LINE, {}, shape, {"c": shape["a"]}, shape, [NOUGHT] * 3)
        wide = (LINE[0], LINE[1] + (("across", "a", "b", W),))
        self.assertRaises(NotThere, takes_drag, wide, {}, shape, {}, shape, [])
        # No sketch ahead of a number that is not there.
        self.assertRaises(NotRight, takes_drag, wide, {}, {}, {}, shape, [])
        self.assertIs(takes_drag(wide, {"w": ratio(3)}, shape, {}, shape, [NOUGHT, NOUGHT]), True)


if __name__ == "__main__":
    unittest.main()
