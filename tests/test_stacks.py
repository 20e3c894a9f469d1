import copy
import random
import unittest
from fractions import Fraction

from mitrehouse.bodies import EMPTY, extent, joined, moved, volume
from mitrehouse.assemblies import overlaps
from mitrehouse.errors import NotThere
from mitrehouse.measures import centre
from mitrehouse.ratios import ratio
from mitrehouse.stacks import first_fall, heights, holds_up, rest_corners, stacked, top_of
from samples import as_ratio, block, fraction, grid_body
from test_bodies import random_body, triple
from test_standing import in_hull

BOX = block((0, 0, 0), (2, 2, 1))


def boxes(body):
    return [tuple((fraction(body[a][place[a]]), fraction(body[a][place[a] + 1])) for a in range(3))
            for place, _ in body[3]]


def over_each_other(box, other):
    return all(max(box[a][0], other[a][0]) < min(box[a][1], other[a][1]) for a in (0, 1))


def slow_heights(bodies):
    """Returns the heights by all pairs of boxes."""
    below, found = [], []
    for body in bodies:
        there = boxes(body)
        up = max([-box[2][0] for box in there]
                 + [other[2][1] - box[2][0] for box in there for other in below if over_each_other(box, other)])
        found.append(as_ratio(Fraction(up)))
        below += [(box[0], box[1], (box[2][0] + up, box[2][1] + up)) for box in there]
    return found


def facets(body, direction):
    """Returns the boxes of the cells that have a facet in the direction."""
    return [box for box, (_, labels) in zip(boxes(body), body[3]) if labels[direction] is not None]


def slow_corners(body, others):
    spots = set()
    for box in facets(body, 4):
        if box[2][0] == 0:
            spots |= {(x, y) for x in box[0] for y in box[1]}
        for other in [one for there in others for one in facets(there, 5)]:
            if box[2][0] == other[2][1] and over_each_other(box, other):
                ends = [(max(box[a][0], other[a][0]), min(box[a][1], other[a][1])) for a in (0, 1)]
                spots |= {(x, y) for x in ends[0] for y in ends[1]}
    return [(as_ratio(Fraction(x)), as_ratio(Fraction(y))) for x, y in sorted(spots)]


def slow_falls(bodies):
    """Returns the numbers of bodies from the end that fall."""
    lying = [moved(body, (ratio(0), ratio(0), up)) for body, up in zip(bodies, slow_heights(bodies))]
    found = []
    for n in range(1, len(lying) + 1):
        upper, lower = lying[-n:], lying[:-n]
        weight = sum(fraction(volume(body)) for body in upper)
        spot = tuple(as_ratio(sum(fraction(volume(body)) * fraction(centre(body)[a]) for body in upper) / weight)
                     for a in (0, 1))
        corners = sorted({corner for body in upper for corner in slow_corners(body, lower)})
        if not in_hull(corners, spot):
            found.append(n)
    return found


def at(x, y, z=0, body=BOX):
    return moved(body, triple(x, y, z))


class Heights(unittest.TestCase):
    def check(self, bodies):
        before = copy.deepcopy(bodies)
        found = heights(bodies)
        self.assertEqual(found, slow_heights(bodies))
        lying = stacked(bodies)
        self.assertEqual(lying, [moved(body, (ratio(0), ratio(0), up)) for body, up in zip(bodies, found)])
        self.assertEqual(overlaps({f"b{k}": body for k, body in enumerate(lying)}), [])
        tops = [fraction(body[2][-1]) for body in lying]
        self.assertEqual(top_of(bodies), as_ratio(Fraction(max(tops, default=0))))
        for k, body in enumerate(lying):
            self.assertEqual(rest_corners(body, lying[:k]), slow_corners(body, lying[:k]))
        falls = slow_falls(bodies)
        self.assertEqual(first_fall(bodies), max(falls) if falls else None)
        self.assertIs(holds_up(bodies), not falls)
        self.assertEqual(bodies, before)
        return found

    def test_no_body(self):
        self.assertEqual((heights([]), stacked([]), top_of([]), first_fall([]), holds_up([])),
                         ([], [], ratio(0), None, True))

    def test_one_body(self):
        for z in (-3, 0, "5/2"):
            self.assertEqual(self.check([at(0, 0, z)]), [as_ratio(-Fraction(z))])
            self.assertEqual(extent(stacked([at(1, 2, z)])[0]), (triple(1, 2, 0), triple(3, 4, 1)))
            self.assertEqual(top_of([at(0, 0, z)]), ratio(1))

    def test_on_one_another_and_beside(self):
        self.assertEqual(self.check([BOX, BOX, BOX]), [ratio(0), ratio(1), ratio(2)])
        self.assertEqual(self.check([BOX, at(1, 1, -7), at(0, 0, 30)]), [ratio(0), ratio(8), ratio(-28)])
        self.assertEqual(self.check([BOX, at(5, 0, 3)]), [ratio(0), ratio(-3)])
        # Boxes that touch along a side or at a corner alone, seen from above, do not carry one another.
        self.assertEqual(self.check([BOX, at(2, 0), at(-2, 2), at(0, 2)]), [ratio(0)] * 4)

    def test_the_highest_one_below_counts(self):
        self.assertEqual(self.check([BOX, at(4, 0), at(4, 0), at(1, 0, 0, block((0, 0, 0), (4, 1, 1)))]),
                         [ratio(0), ratio(0), ratio(1), ratio(2)])

    def test_in_a_hollow_and_over_a_gap(self):
        cup = grid_body([(i, 0, k) for i in range(3) for k in range(3) if (i, k) not in ((1, 1), (1, 2))])
        self.assertEqual(self.check([cup, block((1, 0, 0), (2, 1, 1))]), [ratio(0), ratio(1)])
        self.assertEqual(self.check([cup, block((1, 0, 0), (3, 1, 1))]), [ratio(0), ratio(3)])
        # A peg reaches down into the hollow, but not to its ground.
        lid = grid_body([(0, 0, 1), (1, 0, 1), (2, 0, 1), (1, 0, 0)])
        self.assertEqual(self.check([cup, lid]), [ratio(0), ratio(2)])
        pair = joined(block((0, 0, 0), (1, 1, 2)), block((3, 0, 0), (4, 1, 2)))
        self.assertEqual(self.check([pair, block((1, 0, 0), (3, 1, 1))]), [ratio(0), ratio(0)])
        self.assertEqual(self.check([pair, block((0, 0, 0), (4, 1, 1))]), [ratio(0), ratio(2)])
        # A bridge over a body on the ground, with feet on it at both sides.
        bridge = grid_body([(0, 0, 0), (0, 0, 1), (1, 0, 1), (2, 0, 1), (2, 0, 0)])
        self.assertEqual(self.check([block((1, 0, 0), (2, 1, 1)), bridge]), [ratio(0), ratio(0)])

    def test_nothing_comes_under_an_overhang(self):
        hook = grid_body([(0, 0, 0), (0, 0, 1), (0, 0, 2), (1, 0, 2)])
        self.assertEqual(self.check([hook, block((1, 0, 0), (2, 1, 1))]), [ratio(0), ratio(3)])
        self.assertEqual(self.check([hook, block((2, 0, 0), (3, 1, 1))]), [ratio(0), ratio(0)])

    def test_falls(self):
        half = moved(BOX, triple(1, 0, 0))
        # The centre lies just on the border.
        self.assertEqual(self.check([BOX, half]), [ratio(0), ratio(1)])
        self.assertEqual((holds_up([BOX, half]), first_fall([BOX, half])), (True, None))
        beyond = at("101/100", 0)
        self.assertEqual((holds_up([BOX, beyond]), first_fall([BOX, beyond])), (False, 1))
        self.check([BOX, beyond])
        # Each lies well on the one below, but the last two together do not; then the last three as well.
        stair = [BOX, at("3/4", 0), at("3/2", 0)]
        self.assertEqual(first_fall(stair), 2)
        self.check(stair)
        long = [at(k * Fraction(9, 10), 0) for k in range(5)]
        self.assertEqual(first_fall(long), 5)
        # On a wide plate they still fall, but not all of the stack.
        plate = block((-9, 0, 0), (9, 2, 1))
        self.assertEqual(first_fall([plate] + long), 5)
        self.check([plate] + long)
        self.check(long)
        # A weight that is put behind holds the others down.
        self.assertTrue(holds_up([BOX, at(1, 0, 0, block((0, 0, 0), (4, 2, 1))),
                                  at(0, 0, 0, block((1, 0, 0), (2, 2, 9)))]))
        self.check([BOX, at(1, 0, 0, block((0, 0, 0), (4, 2, 1))), at(0, 0, 0, block((1, 0, 0), (2, 2, 9)))])

    def test_the_stack_as_a_whole(self):
        # The first one falls by itself, and so does all of it.
        crane = joined(block((0, 0, 0), (1, 1, 1)), block((0, 0, 1), (4, 1, 2)))
        self.assertEqual(first_fall([crane]), 1)
        self.assertEqual(first_fall([crane, block((0, 0, 0), (1, 1, 1))]), 2)
        self.check([crane, block((0, 0, 0), (1, 1, 1))])
        self.assertEqual(first_fall([crane, block((0, 0, 0), (1, 1, 20))]), None)
        self.check([crane, block((0, 0, 0), (1, 1, 20))])

    def test_rests_on_several_and_on_the_ground(self):
        pillar = block((0, 0, 0), (1, 1, 2))
        beam = grid_body([(0, 0, 2), (1, 0, 2), (2, 0, 2), (2, 0, 1), (2, 0, 0)])
        self.assertEqual(self.check([pillar, beam]), [ratio(0), ratio(0)])
        self.assertTrue(holds_up([pillar, beam]))
        self.assertEqual(len(rest_corners(beam, [pillar])), 8)
        roof = block((0, 0, 0), (5, 1, 1))
        self.assertTrue(holds_up([pillar, moved(pillar, triple(4, 0, 0)), roof]))
        self.check([pillar, moved(pillar, triple(4, 0, 0)), roof])

    def test_random_stacks(self):
        chance = random.Random(141)
        for _ in range(60):
            bodies = []
            for name in chance.sample("abcdefgh", chance.randint(1, 5)):
                body = random_body(chance, name, 2)
                if body != EMPTY:
                    bodies.append(moved(body, tuple(ratio(chance.randint(-4, 4), chance.randint(1, 2))
                                                    for _ in range(3))))
            self.check(bodies)


class RestCorners(unittest.TestCase):
    def test_on_the_ground(self):
        corners = [(ratio(0), ratio(0)), (ratio(0), ratio(2)), (ratio(2), ratio(0)), (ratio(2), ratio(2))]
        self.assertEqual(rest_corners(BOX, []), corners)
        self.assertEqual(rest_corners(BOX, [at(0, 0, -1)]), corners)
        self.assertEqual(rest_corners(at(0, 0, 1), []), [])
        self.assertEqual(rest_corners(at(0, 0, -1), []), [])

    def test_cell_by_cell_each_corner_once_by_worth(self):
        halves = joined(block((0, 0, 0), (1, 2, 1)), block((1, 0, 0), (2, 2, 1), "g"))
        third = moved(halves, triple("1/3", -1, 1))
        found = rest_corners(third, [halves])
        self.assertEqual(found, [(as_ratio(Fraction(x)), ratio(y)) for x in ("1/3", 1, "4/3", 2) for y in (0, 1)])
        # -1/3 comes behind -1/2, though not as a tuple.
        low = moved(BOX, triple("-1/2", "-1/3", 0))
        self.assertEqual(rest_corners(low, [])[0], (ratio(-1, 2), ratio(-1, 3)))

    def test_touching_along_a_side_is_no_rest(self):
        self.assertEqual(rest_corners(at(2, 0, 1), [BOX]), [])
        self.assertEqual(rest_corners(at(2, 2, 1), [BOX]), [])
        self.assertEqual(rest_corners(at(0, 0, "3/2"), [BOX]), [])

    def test_not_there(self):
        for ask in (heights, stacked, top_of, holds_up, first_fall):
            for bodies in ([EMPTY], [BOX, EMPTY], [EMPTY, BOX]):
                self.assertRaises(NotThere, ask, bodies)
        self.assertRaises(NotThere, rest_corners, EMPTY, [])
        self.assertRaises(NotThere, rest_corners, EMPTY, [BOX])
        self.assertRaises(NotThere, rest_corners, BOX, [BOX, EMPTY])


if __name__ == "__main__":
    unittest.main()
