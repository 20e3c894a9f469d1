import copy
import random
import unittest
from itertools import combinations

from mitrehouse.errors import NotRight, NotThere, TooLarge
from mitrehouse.fixes import are_enough, least_fixes, met_by
from mitrehouse.linear import solve
from mitrehouse.ratios import ratio
from mitrehouse.settling import depends, settle
from mitrehouse.sketches import sketch_rows, unknowns_of
from samples import ONE, TWO, ZERO, as_ratio, box_sketch, fraction, num
from test_drags import BOX, FREE, LINE, random_sketch

W, V = ("of", "w"), ("of", "v")
NUMBERS = {"w": ratio(3), "v": ratio(5)}
STIFF = box_sketch(W, ("minus", W, ONE))
CLASH = (LINE[0], LINE[1] + (("up", "a", "b", ONE),))


def slow_enough(sketch, numbers, points):
    """Returns True if nothing can move any more when the points of a set stay at 0."""
    rows = [(terms, ratio(0)) for terms, _ in sketch_rows(sketch, numbers)]
    rows += [(((point + side, ratio(1)),), ratio(0)) for point in points for side in (".x", ".y")]
    return solve(rows, unknowns_of(sketch))[0] == "one"


def slow_fixes(sketch, numbers):
    points = sketch[0]
    enough = [chosen for size in range(len(points) + 1) for chosen in combinations(points, size)
              if slow_enough(sketch, numbers, chosen)]
    return [chosen for chosen in enough if not any(set(other) < set(chosen) for other in enough)]


class Fixes(unittest.TestCase):
    def check(self, sketch, numbers=None):
        numbers = NUMBERS if numbers is None else numbers
        before = copy.deepcopy((sketch, numbers))
        found = least_fixes(sketch, numbers)
        self.assertEqual(found, slow_fixes(sketch, numbers))
        for size in range(len(sketch[0]) + 1):
            for chosen in combinations(sketch[0], size):
                wanted = any(set(one) <= set(chosen) for one in found)
                self.assertIs(are_enough(sketch, numbers, list(chosen)), wanted)
        self.assertEqual((sketch, numbers), before)
        return found

    def test_one_shape_alone(self):
        self.assertEqual(self.check(STIFF), [()])
        self.assertIs(are_enough(STIFF, NUMBERS, []), True)

    def test_no_constraints(self):
        self.assertEqual(self.check(FREE), [("a", "b")])
        self.assertIs(are_enough(FREE, {}, []), False)

    def test_several_least_choices(self):
        self.assertEqual(self.check(LINE), [("a", "b")])
        # Of a box two corners across tell the rest, but not two neighbours.
        self.assertEqual(self.check(BOX), [("a", "c"), ("b", "d")])
        self.assertIs(are_enough(BOX, {}, ["a", "b"]), False)

    def test_choices_of_different_lengths(self):
        # a moves along x alone, b along y alone, and d with both of them.
        sketch = (("a", "b", "d", "o"), (("fix", "o", ZERO, ZERO), ("level", "a", "o"), ("plumb", "b", "o"),
                                         ("plumb", "d", "a"), ("level", "d", "b")))
        self.assertEqual(self.check(sketch), [("d",), ("a", "b")])
        sketch = (("a", "b", "c"), (("across", "a", "b", ONE), ("up", "b", "c", ONE), ("across", "b", "c", TWO)))
        self.assertEqual(self.check(sketch), [("a", "b"), ("a", "c")])

    def test_held_points_are_in_no_least_choice(self):
        sketch = (("a", "b", "c"), (("fix", "a", ZERO, ZERO), ("level", "a", "b")))
        self.assertEqual(self.check(sketch), [("b", "c")])

    def test_turned_gaps(self):
        sketch = (("a", "b", "c"), (("turn", "a", "c", "a", "b"),))
        self.assertEqual(self.check(sketch), [("a", "b"), ("a", "c"), ("b", "c")])

    def test_spans_count_nothing(self):
        spanned = (LINE[0], LINE[1] + (("span", "a", "b", W),))
        self.assertEqual(self.check(spanned), [("a", "b")])
        wrong = (STIFF[0], STIFF[1] + (("span", "a", "b", num(-1)),))
        self.assertEqual(self.check(wrong), [()])

    def test_told_twice_and_in_any_order(self):
        for points, wanted in ((["c", "a"], True), (["c", "a", "a", "c"], True), (["a", "a"], False),
                               (["a", "b", "a", "b"], False), (["d", "c", "b", "a"], True)):
            self.assertIs(are_enough(BOX, {}, points), wanted)

    def test_random_sketches(self):
        chance = random.Random(125)
        lengths = {}
        for _ in range(100):
            sketch = random_sketch(chance)
            if settle(sketch, NUMBERS)[:2] != ("none", "rows"):
                for one in self.check(sketch):
                    lengths[len(one)] = True
        self.assertEqual(sorted(lengths), [1, 2, 3, 4])

    def test_twelve_points_and_thirteen(self):
        points = tuple("abcdefghijklm")
        rod = tuple(("even", points[k], points[k + 1], "a", "b") for k in range(1, 11))
        twelve = (points[:12], rod)
        self.assertEqual(least_fixes(twelve, {}), list(combinations(points[:12], 2)))
        self.assertEqual(least_fixes((points[:12], ()), {}), [points[:12]])
        for constraints in ((), rod):
            with self.assertRaises(TooLarge):
                least_fixes((points, constraints), {})
        self.assertIs(are_enough((points, rod), {}, ["a", "c"]), False)
        self.assertIs(are_enough((points, rod), {}, ["a", "c", "m"]), True)

    def test_answers_are_new(self):
        least_fixes(BOX, {}).clear()
        points = ["a", "c"]
        are_enough(BOX, {}, points)
        self.assertEqual((least_fixes(BOX, {}), points), ([("a", "c"), ("b", "d")], ["a", "c"]))

    def test_errors(self):
        thirteen = tuple("abcdefghijklm")
        many = (thirteen, CLASH[1])
        for value in (None, (), (("a", "b"), (("level", "a", "z"),))):
            with self.assertRaises(NotRight):
                are_enough(value, {}, ["z"])
            with self.assertRaises(NotRight):
                least_fixes(value, {})
        # A number that lacks goes ahead of a point that is none, also one that stands in a span alone.
        for sketch in (STIFF, (LINE[0], LINE[1] + (("span", "a", "b", W),)), (thirteen, (("up", "a", "b", W),))):
            with self.assertRaises(NotThere):
                are_enough(sketch, {"v": ratio(1)}, ["z"])
            with self.assertRaises(NotThere):
                least_fixes(sketch, {"v": ratio(1)})
        # Rows that clash go ahead of a point that is none, and of too many points.
        for sketch in (CLASH, many):
            with self.assertRaises(NotThere):
                are_enough(sketch, {}, ["z"])
            with self.assertRaises(NotThere):
                least_fixes(sketch, {})
        for points in (["z"], ["a", "b", "z"], [""]):
            with self.assertRaises(NotRight):
                are_enough(LINE, {}, points)


class Met(unittest.TestCase):
    def check(self, sketch, numbers, name, gap, wish):
        told = met_by(sketch, numbers, name, gap, wish)
        p, q, axis = gap

        def gap_at(worth):
            shape = settle(sketch, {**numbers, name: worth})[1]
            return fraction(shape[q][axis]) - fraction(shape[p][axis])

        if told[0] == "one":
            self.assertEqual(gap_at(told[1]), fraction(wish))
            self.assertNotEqual(gap_at(as_ratio(fraction(told[1]) + 1)), fraction(wish))
        for worth in (ratio(0), ratio(1), ratio(-7, 3)):
            if told[0] == "all":
                self.assertEqual(gap_at(worth), fraction(wish))
            elif told[0] == "none":
                self.assertNotEqual(gap_at(worth), fraction(wish))
        return told

    def test_one_none_and_all(self):
        self.assertEqual(self.check(STIFF, NUMBERS, "w", ("a", "c", 1), ratio(5)), ("one", ratio(6)))
        self.assertEqual(self.check(STIFF, NUMBERS, "w", ("c", "a", 1), ratio(5)), ("one", ratio(-4)))
        self.assertEqual(self.check(STIFF, NUMBERS, "w", ("a", "b", 0), ratio(1, 3)), ("one", ratio(1, 3)))
        self.assertEqual(self.check(STIFF, NUMBERS, "w", ("a", "b", 0), ratio(3)), ("one", ratio(3)))
        self.assertEqual(self.check(STIFF, NUMBERS, "w", ("a", "b", 1), ratio(0)), ("all",))
        self.assertEqual(self.check(STIFF, NUMBERS, "w", ("a", "b", 1), ratio(1)), ("none",))
        self.assertEqual(self.check(STIFF, NUMBERS, "w", ("b", "b", 0), ratio(0)), ("all",))
        # A number that the sketch does not name changes nothing.
        self.assertEqual(self.check(STIFF, NUMBERS, "v", ("a", "b", 0), ratio(3)), ("all",))
        self.assertEqual(self.check(STIFF, NUMBERS, "v", ("a", "b", 0), ratio(4)), ("none",))

    def test_several_numbers(self):
        sketch = box_sketch(("plus", W, ("times", ratio(2), V)), ("minus", V, W))
        self.assertEqual(self.check(sketch, NUMBERS, "v", ("a", "b", 0), ratio(4)), ("one", ratio(1, 2)))
        self.assertEqual(self.check(sketch, NUMBERS, "w", ("a", "b", 0), ratio(4)), ("one", ratio(-6)))
        self.assertEqual(self.check(sketch, NUMBERS, "w", ("b", "c", 1), ratio(4)), ("one", ratio(1)))
        self.assertEqual(self.check(sketch, NUMBERS, "v", ("d", "a", 1), ratio(4)), ("one", ratio(-1)))

    def test_random_sketches(self):
        chance = random.Random(126)
        words = {}
        for _ in range(300):
            sketch = random_sketch(chance)
            sketch = (sketch[0], sketch[1] + tuple(("fix", p, ("times", ratio(chance.randint(-1, 1)), W), V)
                                                   for p in chance.sample("abcd", 3)))
            if settle(sketch, NUMBERS)[0] != "one":
                continue
            p, q = chance.sample("abcd", 2)
            axis, name = chance.choice([0, 1]), chance.choice(["w", "v"])
            try:
                grown = depends(sketch, NUMBERS, name)
            except NotThere:
                with self.assertRaises(NotThere):
                    met_by(sketch, NUMBERS, name, (p, q, axis), ratio(1))
                continue
            told = self.check(sketch, NUMBERS, name, (p, q, axis), ratio(chance.randint(-2, 2)))
            words[told[0]] = True
            self.assertEqual(told[0] == "one", grown[p][axis] != grown[q][axis])
        self.assertEqual(sorted(words), ["all", "none", "one"])

    def test_errors(self):
        gap = ("a", "z", 0)
        for value in (None, (("a",),)):
            with self.assertRaises(NotRight):
                met_by(value, {}, "w", gap, ratio(1))
        spanned = (STIFF[0], STIFF[1] + (("span", "a", "b", ("times", ratio(3), W)),))
        self.assertEqual(settle(spanned, NUMBERS)[0], "one")
        once = (STIFF[0], STIFF[1] + (("across", "a", "b", num(3)),))
        self.assertEqual(settle(once, NUMBERS)[0], "one")
        for sketch, numbers in ((STIFF, {}), (spanned, NUMBERS), (LINE, NUMBERS), (CLASH, NUMBERS), (once, NUMBERS)):
            with self.assertRaises(NotThere):
                met_by(sketch, numbers, "w", gap, ratio(1))
        for p, q in (("a", "z"), ("z", "a")):
            with self.assertRaises(NotRight):
                met_by(STIFF, NUMBERS, "w", (p, q, 0), ratio(1))
        with self.assertRaises(NotRight):
            met_by(STIFF, {"w": ratio(3)}, "v", ("a", "b", 0), ratio(1))


if __name__ == "__main__":
    unittest.main()
