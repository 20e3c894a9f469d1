import copy
import random
import unittest
from fractions import Fraction
from itertools import combinations, product

from mitrehouse.errors import NotRight, NotThere
from mitrehouse.outlines import area, fault
from mitrehouse.ranges import breaks, reach, shares, stretches
from mitrehouse.ratios import ratio
from mitrehouse.settling import settle
from samples import ONE, RINGS, TWO, as_ratio, box_sketch, fraction, num

W, V = ("of", "w"), ("of", "v")
BOX = box_sketch(W, ("minus", W, ONE))
NUMBERS = {"w": ratio(3), "v": ratio(5)}
HALF = ratio(1, 2)


def line(start, growth, name="w"):
    """Returns the length that is start and growth times the number."""
    return ("plus", ("num", as_ratio(Fraction(start))), ("times", as_ratio(Fraction(growth)), ("of", name)))


def fixed(table, name="w"):
    """Returns the sketch that fixes each point of a table from names to two pairs of a start and a growth."""
    points = tuple(sorted(table))
    return (points, tuple(("fix", p, line(*table[p][0], name), line(*table[p][1], name)) for p in points))


def corners(names, left, right, low, high):
    """Returns the table of the four corners of a box with these lines as its sides."""
    return dict(zip(names, ((left, low), (right, low), (right, high), (left, high))))


# A box from 0 to 4 and a box of the size 1 that moves to the right with w, and with it up and down.
STILL = corners("abcd", (0, 0), (4, 0), (0, 0), (4, 0))
HOLE = corners("efgh", (0, 1), (1, 1), (1, 0), (2, 0))


def slow_breaks(sketch, numbers, name, rings):
    """Returns the breaks, from the places for two worths of the number."""
    places = [settle(sketch, {**numbers, name: ratio(at)})[1] for at in (0, 1)]
    used = sorted({corner for ring in rings for corner in ring})
    found = set()
    for axis in (0, 1):
        lines = [(fraction(places[0][p][axis]), fraction(places[1][p][axis]) - fraction(places[0][p][axis]))
                 for p in used]
        for (c, g), (e, h) in combinations(lines, 2):
            if g != h:
                found.add((e - c) / (g - h))
    return [as_ratio(one) for one in sorted(found)]


class Stretches(unittest.TestCase):
    def check(self, sketch, rings, numbers, name="w"):
        """Checks breaks and stretches at several worths within each stretch, and returns what they tell."""
        before = copy.deepcopy((sketch, numbers))
        ends = breaks(sketch, numbers, name, rings)
        self.assertEqual(ends, slow_breaks(sketch, numbers, name, rings))
        found = stretches(sketch, numbers, name, rings)
        bounds = [None] + ends + [None]
        self.assertEqual([told[:2] for told in found], list(zip(bounds, bounds[1:])))
        for low, high, told in found:
            for at in self.within(low, high):
                places = settle(sketch, {**numbers, name: as_ratio(at)})[1]
                if fault(places, rings) is not None:
                    self.assertEqual(told, fault(places, rings))
                else:
                    a, b, c = [fraction(one) for one in told]
                    self.assertEqual(as_ratio(a * at * at + b * at + c), area(places, rings))
        self.assertEqual((sketch, numbers), before)
        return [told for _, _, told in found]

    def within(self, low, high):
        if low is None and high is None:
            return [Fraction(at) for at in (-100, -3, Fraction(1, 7), 2, 50)]
        if low is None:
            return [fraction(high) - by for by in (Fraction(1, 100), 1, 3, 40)]
        if high is None:
            return [fraction(low) + by for by in (Fraction(1, 100), 1, 3, 40)]
        return [fraction(low) + (fraction(high) - fraction(low)) * Fraction(k, 13) for k in (1, 4, 7, 12)]

    def test_a_box(self):
        told = self.check(BOX, RINGS, NUMBERS)
        area_of_all = (ratio(1), ratio(-1), ratio(0))
        self.assertEqual(told, [area_of_all, tuple(ratio(one) for one in (-1, 1, 0)), area_of_all])
        self.assertEqual(breaks(BOX, NUMBERS, "w", RINGS), [ratio(0), ratio(1)])

    def test_a_hole_that_moves(self):
        rings = (tuple("abcd"), tuple("efgh"))
        told = self.check(fixed({**STILL, **HOLE}), rings, NUMBERS)
        self.assertEqual(breaks(fixed({**STILL, **HOLE}), NUMBERS, "w", rings),
                         [ratio(one) for one in (-1, 0, 3, 4)])
        # Left of the box and right of it the small one is an island of its own, and within it a hole.
        seventeen, fifteen = (ratio(0), ratio(0), ratio(17)), (ratio(0), ratio(0), ratio(15))
        self.assertEqual(told, [seventeen, ("meet", "d", "a", "e", "f"), fifteen, ("meet", "b", "c", "e", "f"),
                                seventeen])

    def test_corners_that_meet_along_y_alone_and_along_both(self):
        rising = corners("efgh", (6, 0), (7, 0), (0, 1), (1, 1))
        self.check(fixed({**STILL, **rising}), (tuple("abcd"), tuple("efgh")), NUMBERS)
        self.assertEqual(breaks(fixed(rising), NUMBERS, "w", (tuple("efgh"),)), [])
        slanting = corners("efgh", (0, 1), (1, 1), (0, 1), (1, 1))
        both = fixed({**STILL, **slanting})
        self.check(both, (tuple("abcd"), tuple("efgh")), NUMBERS)
        # Both x and y of the corners meet at the same worths, which are told once.
        self.assertEqual(breaks(both, NUMBERS, "w", (tuple("abcd"), tuple("efgh"))),
                         [ratio(one) for one in (-1, 0, 3, 4)])

    def test_growing_both_ways(self):
        growing = corners("abcd", (0, -1), (0, 2), (1, Fraction(-1, 2)), (3, 1))
        told = self.check(fixed(growing), RINGS, NUMBERS)
        # 3 * w times 2 + 3 * w / 2, below 0 between the breaks.
        self.assertEqual(told[2], (ratio(9, 2), ratio(6), ratio(0)))
        self.assertEqual(told[1], (ratio(-9, 2), ratio(-6), ratio(0)))

    def test_no_break(self):
        told = self.check(fixed(corners("abcd", (0, 1), (4, 1), (0, -2), (3, -2))), RINGS, NUMBERS)
        self.assertEqual(told, [(ratio(0), ratio(0), ratio(12))])
        self.assertEqual(self.check(fixed(STILL), RINGS, {**NUMBERS, "w": ratio(9)}), [(ratio(0), ratio(0), ratio(16))])
        # A number that the sketch does not name, and one that others add to.
        self.assertEqual(self.check(fixed(STILL), RINGS, NUMBERS, "v"), [(ratio(0), ratio(0), ratio(16))])
        self.assertEqual(self.check(box_sketch(V, W), RINGS, NUMBERS, "w")[1], (ratio(0), ratio(5), ratio(0)))

    def test_faults_of_all_kinds(self):
        table = {**STILL, "e": ((0, 1), (0, 0))}
        self.assertEqual(self.check(fixed(table), (tuple("abc"),), NUMBERS), [("few", 0)])
        self.assertEqual(self.check(fixed(table), ((),), NUMBERS), [("few", 0)])
        self.assertEqual(self.check(fixed(table), (tuple("abcda"),), NUMBERS), [("twice", "a")])
        self.assertEqual(self.check(fixed(table), (tuple("acbd"),), NUMBERS), [("slant", "a", "c")])
        # e slides along the lower side: where it stands on a corner lies a break, beside it the edges overlap.
        self.assertEqual(self.check(fixed(table), (tuple("aebcd"),), NUMBERS),
                         [("meet", "a", "e", "e", "b"), (ratio(0), ratio(0), ratio(16)), ("meet", "a", "e", "e", "b")])

    def test_points_that_are_no_corners_make_no_break(self):
        table = {**STILL, "e": ((0, 1), (0, 5))}
        self.assertEqual(breaks(fixed(table), NUMBERS, "w", RINGS), [])

    def test_random_boxes(self):
        chance = random.Random(82)
        words = {}
        for _ in range(60):
            tables = [corners(names, *[(chance.randint(-3, 3), Fraction(chance.choice([0, 0, 0, 1, -1, 2]), 2))
                                       for _ in range(4)]) for names in ("abcd", "efgh")]
            rings = (tuple("abcd"), tuple("efgh"))[:chance.choice([1, 2, 2])]
            told = self.check(fixed({**tables[0], **tables[1]}), rings, NUMBERS)
            for one in told:
                words[one[0] if isinstance(one[0], str) else "area"] = True
        self.assertEqual(sorted(words), ["area", "meet", "slant"])

    def test_answers_are_new(self):
        breaks(BOX, NUMBERS, "w", RINGS).clear()
        stretches(BOX, NUMBERS, "w", RINGS).clear()
        self.assertEqual((len(breaks(BOX, NUMBERS, "w", RINGS)), len(stretches(BOX, NUMBERS, "w", RINGS))), (2, 3))


class Reach(unittest.TestCase):
    def check(self, sketch, numbers, leeways, p, q, axis):
        """Checks reach and shares against all outermost worths of the numbers."""
        named = [name for name in sorted(leeways) if name in numbers]
        gaps = []
        for signs in product((-1, 1), repeat=len(named)):
            worths = dict(numbers)
            for name, way in zip(named, signs):
                worths[name] = as_ratio(fraction(numbers[name]) + way * fraction(leeways[name]))
            shape = settle(sketch, worths)[1]
            gaps.append(fraction(shape[q][axis]) - fraction(shape[p][axis]))
        low, high = reach(sketch, numbers, leeways, p, q, axis)
        self.assertEqual((fraction(low), fraction(high)), (min(gaps), max(gaps)))
        told = shares(sketch, numbers, leeways, p, q, axis)
        self.assertEqual([name for name, _ in told], sorted(name for name, _ in told))
        self.assertTrue(all(fraction(one) > 0 for _, one in told))
        self.assertEqual(sum([fraction(one) for _, one in told], Fraction(0)), (max(gaps) - min(gaps)) / 2)
        for name, one in told:
            alone = reach(sketch, numbers, {name: leeways[name]}, p, q, axis)
            self.assertEqual(fraction(alone[1]) - fraction(alone[0]), 2 * fraction(one))
        return (low, high), told

    def test_one_number(self):
        leeways = {"w": ratio(1, 10)}
        self.assertEqual(self.check(BOX, NUMBERS, leeways, "a", "c", 1),
                         ((ratio(19, 10), ratio(21, 10)), [("w", ratio(1, 10))]))
        self.assertEqual(self.check(BOX, NUMBERS, leeways, "a", "c", 0)[0], (ratio(29, 10), ratio(31, 10)))
        self.assertEqual(self.check(BOX, NUMBERS, leeways, "c", "a", 0)[0], (ratio(-31, 10), ratio(-29, 10)))
        self.assertEqual(self.check(BOX, NUMBERS, leeways, "a", "b", 1), ((ratio(0), ratio(0)), []))
        self.assertEqual(self.check(BOX, NUMBERS, leeways, "c", "c", 0), ((ratio(0), ratio(0)), []))

    def test_several_numbers(self):
        # The gap from a to b is 2 * v - w / 2, so a greater w makes it less.
        long = ("minus", ("times", ratio(2), V), ("times", HALF, W))
        sketch = box_sketch(long, ("plus", W, V))
        leeways = {"w": HALF, "v": ratio(1, 3)}
        told = self.check(sketch, NUMBERS, leeways, "a", "b", 0)
        self.assertEqual(told[1], [("v", ratio(2, 3)), ("w", ratio(1, 4))])
        self.assertEqual(told[0], (ratio(91, 12), ratio(113, 12)))
        self.assertEqual(self.check(sketch, NUMBERS, leeways, "b", "c", 1)[1], [("v", ratio(1, 3)), ("w", HALF)])

    def test_leeways_that_count_nothing(self):
        self.assertEqual(self.check(BOX, NUMBERS, {}, "a", "b", 0), ((ratio(3), ratio(3)), []))
        self.assertEqual(self.check(BOX, NUMBERS, {"w": ratio(0)}, "a", "b", 0), ((ratio(3), ratio(3)), []))
        self.assertEqual(self.check(BOX, NUMBERS, {"v": ratio(7)}, "a", "b", 0), ((ratio(3), ratio(3)), []))
        self.assertEqual(reach(BOX, NUMBERS, {"nowhere": ratio(7)}, "a", "b", 0), (ratio(3), ratio(3)))
        self.assertEqual(shares(BOX, NUMBERS, {"nowhere": ratio(7)}, "a", "b", 0), [])
        # v cancels out of the length, and so does its leeway.
        sketch = box_sketch(("minus", ("plus", W, V), V), TWO)
        self.assertEqual(self.check(sketch, NUMBERS, {"v": ONE[1], "w": ratio(1)}, "a", "b", 0)[1], [("w", ratio(1))])

    def test_random_sketches(self):
        chance = random.Random(83)
        for _ in range(30):
            table = {}
            for p in "abc":
                table[p] = [("plus", line(chance.randint(-3, 3), Fraction(chance.randint(-3, 3), 2)),
                             ("times", ratio(chance.randint(-2, 2)), V)) for _ in range(2)]
            sketch = (tuple("abc"), tuple(("fix", p, *table[p]) for p in "abc"))
            leeways = {name: ratio(chance.randint(0, 4), 3) for name in chance.sample(["v", "w"], chance.randint(0, 2))}
            self.check(sketch, NUMBERS, leeways, *chance.sample("abc", 2), chance.choice([0, 1]))

    def test_answers_are_new(self):
        shares(BOX, NUMBERS, {"w": HALF}, "a", "b", 0).clear()
        self.assertEqual(shares(BOX, NUMBERS, {"w": HALF}, "a", "b", 0), [("w", HALF)])


class Errors(unittest.TestCase):
    def all_four(self, error, sketch, numbers, name="w", rings=RINGS, leeways=None, p="a", q="b"):
        self.two_of_breaks(error, sketch, numbers, name, rings)
        self.two_of_reach(error, sketch, numbers, leeways or {}, p, q)

    def two_of_breaks(self, error, sketch, numbers, name="w", rings=RINGS):
        for ask in (breaks, stretches):
            with self.assertRaises(error):
                ask(sketch, numbers, name, rings)

    def two_of_reach(self, error, sketch, numbers, leeways, p="a", q="b"):
        for ask in (reach, shares):
            with self.assertRaises(error):
                ask(sketch, numbers, leeways, p, q, 0)

    def test_no_sketch_goes_ahead_of_all(self):
        for value in (None, (), (("a",),), (BOX[0], BOX[1] + (("level", "a", "z"),))):
            self.all_four(NotRight, value, {}, "w", (("z",),), {"w": ratio(-1)}, "z")

    def test_a_number_that_lacks(self):
        # Ahead of a corner and a point that are none, and of a leeway below 0.
        self.all_four(NotThere, BOX, {}, "w", (("z",),), {"w": ratio(-1)}, "z")
        self.all_four(NotThere, BOX, {"v": ratio(1)}, "v", (("z",),), {"w": ratio(-1)}, "z")

    def test_a_span_a_freedom_a_clash(self):
        spanned = (BOX[0], BOX[1] + (("span", "a", "b", ("times", ratio(3), W)),))
        self.assertEqual(settle(spanned, NUMBERS)[0], "one")
        free = (BOX[0], BOX[1][:-1])
        clash = (BOX[0], BOX[1] + (("across", "a", "b", TWO),))
        for sketch in (spanned, free, clash):
            self.all_four(NotThere, sketch, NUMBERS, "w", (("z",),), {"w": ratio(-1)}, "z")

    def test_constraints_that_agree_for_one_worth_alone(self):
        sketch = (BOX[0], BOX[1] + (("across", "a", "b", num(3)),))
        self.assertEqual(settle(sketch, NUMBERS)[0], "one")
        self.all_four(NotThere, sketch, NUMBERS, "w", (("z",),), {"w": ratio(-1)}, "z")
        # breaks asks for the one number alone; reach for each that the sketch names, with a leeway or without.
        self.assertEqual(breaks(sketch, NUMBERS, "v", RINGS), [])
        self.two_of_reach(NotThere, sketch, NUMBERS, {"v": ratio(1)})
        self.two_of_reach(NotThere, sketch, NUMBERS, {})

    def test_corners_and_points_that_are_none(self):
        self.two_of_breaks(NotRight, BOX, NUMBERS, "w", (("a", "b", "c", "z"),))
        self.two_of_breaks(NotRight, BOX, NUMBERS, "w", (("a", "b", "c", "d"), ("z",)))
        self.two_of_reach(NotRight, BOX, NUMBERS, {}, "z", "b")
        self.two_of_reach(NotRight, BOX, NUMBERS, {}, "a", "z")

    def test_a_number_that_is_none_of_numbers(self):
        self.two_of_breaks(NotRight, BOX, {"w": ratio(3)}, "v")
        self.two_of_breaks(NotRight, box_sketch(ONE, ONE), {}, "w")
        self.assertEqual(breaks(box_sketch(ONE, ONE), {"w": ratio(1)}, "w", RINGS), [])

    def test_leeways_below_0(self):
        self.two_of_reach(NotRight, BOX, NUMBERS, {"w": ratio(-1, 9)})
        self.two_of_reach(NotRight, BOX, NUMBERS, {"w": ratio(1), "v": ratio(-1)})


if __name__ == "__main__":
    unittest.main()
