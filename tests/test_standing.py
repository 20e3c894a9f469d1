import copy
import random
import unittest
from fractions import Fraction
from itertools import combinations, product

from mitrehouse.bodies import EMPTY, joined, moved, turned
from mitrehouse.errors import NotThere
from mitrehouse.measures import centre
from mitrehouse.ratios import ratio
from mitrehouse.standing import accepts_standing, foot, hull, standing_paper, stands
from samples import as_ratio, block, fraction, grid_body
from test_bodies import random_body, triple
from test_measures import stretched

BOX = block((0, 0, 0), (2, 1, 1))


def leaning(far):
    """Returns a foot of 1 by 1 by 1 with a bar on it that reaches so far along x; its centre moves with it."""
    return joined(block((0, 0, 0), (1, 1, 1)), block((0, 0, 1), (far, 1, 2), "g"))


# The centre lies at 5/6 along x, and at 5/4.
STANDS, FALLS = leaning(2), leaning(3)
# A box on the edge of another one: the centre of both lies over the border of the foot.
TIPS = joined(block((0, 0, 0), (1, 1, 1)), block((1, 0, 1), (2, 1, 2), "g"))


def pair(x, y):
    return (as_ratio(Fraction(x)), as_ratio(Fraction(y)))


def area(p, q, r):
    p, q, r = [[fraction(one) for one in spot] for spot in (p, q, r)]
    return (q[0] - p[0]) * (r[1] - p[1]) - (q[1] - p[1]) * (r[0] - p[0])


def in_triangle(spot, p, q, r):
    signs = [area(p, q, spot), area(q, r, spot), area(r, p, spot)]
    if area(p, q, r) == 0:
        # A triangle without area: the spot lies between the ends of one of its sides.
        return any(on_side(spot, one, other) for one, other in ((p, q), (q, r), (r, p)))
    return all(one >= 0 for one in signs) or all(one <= 0 for one in signs)


def on_side(spot, p, q):
    if area(p, q, spot) != 0:
        return False
    return all(min(fraction(p[a]), fraction(q[a])) <= fraction(spot[a]) <= max(fraction(p[a]), fraction(q[a]))
               for a in (0, 1))


def in_hull(corners, spot):
    """Returns True if a spot lies in the hull of corners or on its border: in a triangle of them."""
    if spot in corners:
        return True
    return any(in_triangle(spot, *chosen) for chosen in combinations(corners, 3)) or any(
        on_side(spot, *chosen) for chosen in combinations(corners, 2))


def slow_hull(corners):
    """Returns the corners that do not lie between or within others, the least one first, then by turning left."""
    left = [one for one in corners if not in_hull([other for other in corners if other != one], one)]
    first = min(left, key=lambda one: (fraction(one[0]), fraction(one[1])))
    found = [first]
    while True:
        others = [one for one in left if one != found[-1]]
        after = [one for one in others if all(area(found[-1], one, other) >= 0 for other in others)]
        if not after or after[0] == first:
            return found
        found.append(after[0])


def slow_stands(body):
    """Returns the word, from whether the centre and spots very near to it lie in a triangle of the foot."""
    corners, (x, y, _) = foot(body), centre(body)
    if not in_hull(corners, (x, y)):
        return "falls"
    small = Fraction(1, 10 ** 9)
    near = [(as_ratio(fraction(x) + dx * small), as_ratio(fraction(y) + dy * small))
            for dx, dy in ((1, 0), (-1, 0), (0, 1), (0, -1))]
    return "stands" if all(in_hull(corners, spot) for spot in near) else "tips"


class Foot(unittest.TestCase):
    def test_one_box(self):
        self.assertEqual(foot(BOX), [pair(0, 0), pair(0, 1), pair(2, 0), pair(2, 1)])
        self.assertEqual(foot(moved(BOX, triple(Fraction(1, 2), -3, 7))),
                         [pair(Fraction(1, 2), -3), pair(Fraction(1, 2), -2), pair(Fraction(5, 2), -3), pair(Fraction(5, 2), -2)])

    def test_several_boxes(self):
        table = grid_body([(0, 0, 0), (2, 0, 0), (0, 0, 1), (1, 0, 1), (2, 0, 1)])
        self.assertEqual(foot(table), [pair(x, y) for x in range(4) for y in (0, 1)])
        # Corners within the foot count, too: cells that have them have facets there.
        ell = grid_body([(0, 0, 0), (1, 0, 0), (0, 1, 0)])
        self.assertEqual(foot(ell), [pair(x, y) for x, y in ((0, 0), (0, 1), (0, 2), (1, 0), (1, 1), (1, 2), (2, 0), (2, 1))])

    def test_at_the_least_z_alone(self):
        self.assertEqual(foot(leaning(9)), [pair(0, 0), pair(0, 1), pair(1, 0), pair(1, 1)])
        body = joined(block((0, 0, 1), (1, 1, 2)), block((5, 5, 0), (6, 6, 1), "g"))
        self.assertEqual(foot(body), [pair(5, 5), pair(5, 6), pair(6, 5), pair(6, 6)])

    def test_by_worth(self):
        body = stretched(random.Random(1), grid_body([(0, 0, 0), (2, 2, 0), (1, 1, 1)]))
        found = [(fraction(x), fraction(y)) for x, y in foot(body)]
        self.assertEqual(found, sorted(found))
        self.assertEqual(foot(block((0, 0, 0), ((1, 3), (1, 2), 1))),
                         [pair(0, 0), pair(0, Fraction(1, 2)), pair(Fraction(1, 3), 0), pair(Fraction(1, 3), Fraction(1, 2))])


class Hull(unittest.TestCase):
    def check(self, corners, *wanted):
        before = list(corners)
        found = hull(corners)
        self.assertEqual(found, slow_hull(corners))
        if wanted:
            self.assertEqual(found, [pair(*one) for one in wanted])
        self.assertEqual(corners, before)

    def test_one_and_two(self):
        self.check([pair(3, -1)], (3, -1))
        self.check([pair(3, -1), pair(2, 5)], (2, 5), (3, -1))
        self.check([pair(2, 5), pair(2, -5)], (2, -5), (2, 5))

    def test_in_one_line(self):
        self.check([pair(1, 1), pair(0, 0), pair(3, 3), pair(2, 2)], (0, 0), (3, 3))
        self.check([pair(0, 2), pair(0, 0), pair(0, 1)], (0, 0), (0, 2))
        self.check([pair(2, 0), pair(0, 0), pair(Fraction(1, 2), 0), pair(1, 0)], (0, 0), (2, 0))

    def test_within_and_between(self):
        square = [pair(x, y) for x, y in product(range(3), repeat=2)]
        self.check(square, (0, 0), (2, 0), (2, 2), (0, 2))
        self.check(square[::-1], (0, 0), (2, 0), (2, 2), (0, 2))
        self.check([pair(1, 0), pair(0, 1), pair(2, 1), pair(1, 2), pair(1, 1)], (0, 1), (1, 0), (2, 1), (1, 2))

    def test_the_least_one_by_worth(self):
        # As tuples 1/3 is below 1/2 and 10/21 above both, by worth it is between them.
        self.check([(ratio(1, 2), ratio(0)), (ratio(1, 3), ratio(1, 2)), (ratio(1, 3), ratio(10, 21)), (ratio(2), ratio(5))])
        self.check([pair(Fraction(-1, 2), 3), pair(Fraction(-1, 2), Fraction(-7, 2)), pair(4, 4), pair(9, -9)])

    def test_random_corners(self):
        chance = random.Random(131)
        for _ in range(80):
            spots = {(chance.randint(-3, 3), Fraction(chance.randint(-6, 6), 2)) for _ in range(chance.randint(1, 8))}
            corners = [pair(*spot) for spot in spots]
            chance.shuffle(corners)
            self.check(corners)


class Stands(unittest.TestCase):
    def test_three_words(self):
        self.assertEqual([stands(body) for body in (BOX, STANDS, TIPS, FALLS)], ["stands", "stands", "tips", "falls"])

    def test_over_each_side_and_corner(self):
        words = {}
        for turns in range(4):
            for body, wanted in ((STANDS, "stands"), (TIPS, "tips"), (FALLS, "falls")):
                self.assertEqual(stands(turned(body, turns)), wanted)
            # The centre lies over a corner of the foot, or beyond it.
            corner = joined(block((0, 0, 0), (1, 1, 1)), block((1, 1, 1), (2, 2, 2), "g"))
            self.assertEqual(stands(turned(corner, turns)), "tips")
            far = joined(block((0, 0, 0), (1, 1, 1)), block((1, 1, 1), (2, 2, 3), "g"))
            self.assertEqual(stands(turned(far, turns)), "falls")
            for body in (corner, far):
                words[standing_paper(turned(body, turns))[0]] = True
                self.assertIs(accepts_standing(turned(body, turns), standing_paper(turned(body, turns))), True)
        self.assertEqual(sorted(words), ["edge", "falls"])

    def test_between_two_feet(self):
        # No part of the foot lies below the centre, but its hull does.
        table = grid_body([(0, 0, 0), (4, 4, 0)] + [(i, j, 1) for i in range(5) for j in range(5)])
        self.assertEqual(stands(table), "stands")

    def test_against_slow_ones(self):
        chance = random.Random(132)
        words = {}
        for _ in range(150):
            body = random_body(chance, "f", 2)
            if chance.random() < 0.5:
                body = stretched(chance, body)
            if body == EMPTY:
                continue
            before = copy.deepcopy(body)
            word = stands(body)
            words[word] = True
            self.assertEqual(word, slow_stands(body))
            paper = standing_paper(body)
            self.assertEqual(paper[0], {"stands": "held", "tips": "edge", "falls": "falls"}[word])
            self.assertIs(accepts_standing(body, paper), True)
            self.check_paper(body, paper)
            self.assertEqual(body, before)
        self.assertEqual(len(words), 3)

    def check_paper(self, body, paper):
        corners, (x, y, _) = foot(body), centre(body)
        if paper[0] != "falls":
            self.assertTrue(all(corner in corners and fraction(weight) >= 0 for corner, weight in paper[1]))
            self.assertEqual(sum(fraction(weight) for _, weight in paper[1]), 1)
            for axis, at in ((0, x), (1, y)):
                self.assertEqual(sum(fraction(weight) * fraction(corner[axis]) for corner, weight in paper[1]), fraction(at))
        if paper[0] != "held":
            a, b, c = [fraction(one) for one in paper[-1]]
            self.assertTrue(a or b)
            self.assertTrue(all(a * fraction(p[0]) + b * fraction(p[1]) <= c for p in corners))
            there = a * fraction(x) + b * fraction(y)
            self.assertTrue(there > c if paper[0] == "falls" else there >= c)

    def test_not_there(self):
        for ask in (lambda: foot(EMPTY), lambda: stands(EMPTY), lambda: standing_paper(EMPTY),
                    lambda: accepts_standing(EMPTY, ("held", []))):
            self.assertRaises(NotThere, ask)

    def test_answers_are_new(self):
        foot(BOX).clear()
        hull(foot(BOX)).clear()
        standing_paper(BOX)[1].clear()
        corners = [pair(1, 1)]
        hull(corners).clear()
        self.assertEqual((len(foot(BOX)), len(hull(foot(BOX))), len(corners)), (4, 4, 1))
        self.assertIs(accepts_standing(BOX, standing_paper(BOX)), True)


class Papers(unittest.TestCase):
    def half(self, *corners):
        """Returns weights that are equal for all corners."""
        return [(corner, ratio(1, len(corners))) for corner in corners]

    def test_weights(self):
        good = self.half(*foot(BOX))
        self.assertIs(accepts_standing(BOX, ("held", good)), True)
        self.assertIs(accepts_standing(BOX, ("held", self.half(pair(0, 0), pair(2, 1)))), True)
        self.assertIs(accepts_standing(BOX, ("held", good[::-1])), True)
        # A weight of 0 harms nothing.
        self.assertIs(accepts_standing(BOX, ("held", self.half(pair(0, 0), pair(2, 1)) + [(pair(2, 0), ratio(0))])), True)

    def test_wrong_weights(self):
        good = self.half(*foot(BOX))
        for k, (corner, weight) in enumerate(good):
            for other in ((corner, ratio(1, 3)), (corner, ratio(-1, 4)), (corner, ratio(0)), (pair(7, 7), weight),
                          (pair(1, Fraction(1, 2)), weight)):
                self.assertIs(accepts_standing(BOX, ("held", good[:k] + [other] + good[k + 1:])), False, other)
            self.assertIs(accepts_standing(BOX, ("held", good[:k] + good[k + 1:])), False)
            self.assertIs(accepts_standing(BOX, ("held", good + [(corner, weight)])), False)
        self.assertIs(accepts_standing(BOX, ("held", [])), False)
        # Right sums, but weights below 0, or a spot that is no corner of the foot.
        below = [(pair(0, 0), ratio(3, 4)), (pair(2, 1), ratio(3, 4)), (pair(0, 1), ratio(-1, 4)), (pair(2, 0), ratio(-1, 4))]
        self.assertIs(accepts_standing(BOX, ("held", below)), False)
        self.assertIs(accepts_standing(BOX, ("held", [(pair(1, Fraction(1, 2)), ratio(1))])), False)
        self.assertIs(accepts_standing(BOX, ("held", self.half(pair(-1, 0), pair(3, 1)))), False)
        # The sums are right along x alone, or along y alone, or in all but their own sum.
        self.assertIs(accepts_standing(BOX, ("held", self.half(pair(0, 0), pair(2, 0)))), False)
        self.assertIs(accepts_standing(BOX, ("held", self.half(pair(0, 0), pair(0, 1)))), False)
        here = moved(BOX, triple(-1, Fraction(-1, 2), 0))
        self.assertIs(accepts_standing(here, ("held", [])), False)
        self.assertIs(accepts_standing(here, ("held", [(corner, ratio(1)) for corner in foot(here)])), False)

    def test_a_corner_told_twice(self):
        twice = [(pair(0, 0), ratio(1, 4)), (pair(0, 0), ratio(1, 4)), (pair(2, 1), ratio(1, 2))]
        self.assertIs(accepts_standing(BOX, ("held", twice)), True)
        self.assertIs(accepts_standing(BOX, ("held", twice[1:])), False)

    def test_a_body_that_tips(self):
        weights, line = self.half(pair(1, 0), pair(1, 1)), (ratio(1), ratio(0), ratio(1))
        self.assertIs(accepts_standing(TIPS, ("edge", weights, line)), True)
        self.assertIs(accepts_standing(TIPS, ("held", weights)), True)
        self.assertIs(accepts_standing(TIPS, ("falls", line)), False)
        self.assertIs(accepts_standing(TIPS, ("edge", weights, (ratio(5), ratio(0), ratio(5)))), True)
        for other in ((ratio(0), ratio(0), ratio(0)), (ratio(1), ratio(0), ratio(1, 2)), (ratio(1), ratio(0), ratio(2)),
                      (ratio(-1), ratio(0), ratio(-1)), (ratio(0), ratio(1), ratio(1)), (ratio(1), ratio(1), ratio(2)),
                      (ratio(0), ratio(0), ratio(-1))):
            self.assertIs(accepts_standing(TIPS, ("edge", weights, other)), False, other)
        for other in ([], self.half(pair(1, 0)), self.half(pair(0, 0), pair(1, 1)), weights[:1], weights * 2):
            self.assertIs(accepts_standing(TIPS, ("edge", other, line)), False)
            self.assertIs(accepts_standing(TIPS, ("held", other)), False)

    def test_a_body_that_falls(self):
        # The centre is at 5/4.
        self.assertEqual(centre(FALLS)[0], ratio(5, 4))
        for line in ((ratio(1), ratio(0), ratio(1)), (ratio(1), ratio(0), ratio(6, 5)), (ratio(2), ratio(0), ratio(2)),
                     (ratio(5), ratio(1), ratio(6)), (ratio(5), ratio(-1), ratio(5))):
            self.assertIs(accepts_standing(FALLS, ("falls", line)), True, line)
        for line in ((ratio(1), ratio(0), ratio(5, 4)), (ratio(1), ratio(0), ratio(9, 10)), (ratio(0), ratio(0), ratio(0)),
                     (ratio(0), ratio(0), ratio(-1)), (ratio(-1), ratio(0), ratio(0)), (ratio(0), ratio(1), ratio(1)),
                     (ratio(1), ratio(1), ratio(2)), (ratio(1), ratio(0), ratio(7))):
            self.assertIs(accepts_standing(FALLS, ("falls", line)), False, line)

    def test_values_of_another_kind(self):
        weights, line = self.half(pair(1, 0), pair(1, 1)), (ratio(1), ratio(0), ratio(1))
        fall_line = (ratio(1), ratio(0), ratio(6, 5))
        for other in (tuple(weights), line, ()):
            self.assertIs(accepts_standing(TIPS, ("held", other)), False)
            self.assertIs(accepts_standing(TIPS, ("edge", other, line)), False)
        three = self.half(*foot(BOX)[:3])
        for other in (list(fall_line), fall_line[:2], fall_line + (ratio(1),), tuple(three), three, (1, 0, 1), ()):
            self.assertIs(accepts_standing(FALLS, ("falls", other)), False)
        for other in (list(line), line[:2], line + (ratio(1),), tuple(three), (1, 0, 1)):
            self.assertIs(accepts_standing(TIPS, ("edge", weights, other)), False)

    def test_each_for_another_word(self):
        bodies = {"held": BOX, "edge": TIPS, "falls": FALLS}
        papers = {word: standing_paper(body) for word, body in bodies.items()}
        weights, line = papers["edge"][1:]
        for word, body in bodies.items():
            for other, paper in papers.items():
                self.assertIs(accepts_standing(body, paper), word == other, (word, other))
        fall_line = papers["falls"][1]
        for body in bodies.values():
            for paper in (("edge", weights), ("edge", line), ("held", weights, line), ("held", line), ("falls", weights),
                          ("falls", weights, line), ("held",), ("falls",), ("stands", weights), ("tips", weights, line),
                          ("edge", line, weights), ("falls", line, fall_line), ("edge", papers["held"][1], fall_line)):
                self.assertIs(accepts_standing(body, paper), False, paper)


if __name__ == "__main__":
    unittest.main()
