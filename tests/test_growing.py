import copy
import random
import unittest
from fractions import Fraction
from itertools import product

from mitrehouse.assemblies import overlaps
from mitrehouse.bodies import EMPTY, cut, extent, is_body, joined, moved, pieces, same_places, thin, volume
from mitrehouse.errors import NotNumber, NotThere, TooLarge
from mitrehouse.growing import box_distance, grown, opened, shrunk
from mitrehouse.ratios import ratio
from samples import as_ratio, block, fraction, grid_body, label_of, labelled_cells
from test_bodies import random_body, triple

BOX = block((0, 0, 0), (2, 2, 2))
BY = ("grown", "")
LESS = ("shrunk", "")


def boxes(body):
    """Returns the boxes of a body: for each axis the pair of both ends, as fractions."""
    return [tuple((fraction(body[a][place[a]]), fraction(body[a][place[a] + 1])) for a in range(3))
            for place, _ in body[3]]


def larger(box, by):
    return tuple((low - by, high + by) for low, high in box)


def covers(box, spot):
    return all(box[a][0] < spot[a] < box[a][1] for a in range(3))


def body_where(ends, is_full, label):
    """Returns the thin body of the cells between ends, for each axis, whose middles is_full tells to be full."""
    ends = [sorted(set(along)) for along in ends]
    middles = [[(along[k] + along[k + 1]) / 2 for k in range(len(along) - 1)] for along in ends]
    places = [place for place in product(*[range(len(along)) for along in middles])
              if is_full(tuple(middles[a][place[a]] for a in range(3)))]
    return thin(*[tuple(as_ratio(one) for one in along) for along in ends],
                labelled_cells(places, lambda place, d: label))


def slow_grown(body, by):
    grown_boxes = [larger(box, fraction(by)) for box in boxes(body)]
    ends = [[one for box in grown_boxes for one in box[a]] for a in range(3)]
    return body_where(ends, lambda spot: any(covers(box, spot) for box in grown_boxes), BY)


def cube_is_within(spot, by, there):
    """Returns True if boxes fill the cube around a spot: if they fill as much of it as it has."""
    cube = [(one - by, one + by) for one in spot]
    filled = 0
    for box in there:
        sides = [min(cube[a][1], box[a][1]) - max(cube[a][0], box[a][0]) for a in range(3)]
        filled += sides[0] * sides[1] * sides[2] if min(sides) > 0 else 0
    return filled == (2 * by) ** 3


def slow_shrunk(body, by):
    """A place is left if all places that are less than by away from it along each axis are in the body."""
    there, by = boxes(body), fraction(by)
    ends = [[one + far for box in there for one in box[a] for far in (-by, by)] for a in range(3)]
    return body_where(ends, lambda spot: cube_is_within(spot, by, there), LESS)


def slow_distance(body, other):
    """The least one of the distances of boxes, each the greatest of the gaps along the axes."""
    gaps = [max([0] + [max(there[a][0] - box[a][1], box[a][0] - there[a][1]) for a in range(3)])
            for box in boxes(body) for there in boxes(other)]
    return as_ratio(Fraction(min(gaps)))


def labels_of(body):
    return {label for _, labels in body[3] for label in labels if label is not None}


def staircase(many, x=1000, y=1000):
    """Returns a body of so many unit boxes, each one further along z, along x and y only so far before it begins anew."""
    return grid_body([(k % x, k % y, k) for k in range(many)])


class Grown(unittest.TestCase):
    def check(self, body, by):
        before = copy.deepcopy(body)
        found = grown(body, by)
        self.assertEqual(found, slow_grown(body, by))
        self.assertTrue(is_body(found))
        self.assertEqual(labels_of(found), {BY})
        self.assertEqual(cut(body, found), EMPTY)
        self.assertEqual(body, before)
        return found

    def test_one_box(self):
        for by in (ratio(1), ratio(1, 3), ratio(7, 2)):
            low, high = [tuple(as_ratio(Fraction(end) + side * fraction(by)) for _ in range(3))
                         for end, side in ((0, -1), (2, 1))]
            found = self.check(BOX, by)
            self.assertEqual(extent(found), (low, high))
            self.assertEqual(len(found[3]), 1)
            self.assertEqual(found[3][0], ((0, 0, 0), (BY,) * 6))

    def test_gaps_stay_close_and_are_gone(self):
        pair = joined(block((0, 0, 0), (1, 1, 1)), block((3, 0, 0), (4, 1, 1), "g"))
        self.assertEqual(len(pieces(self.check(pair, ratio(1, 2)))), 2)
        self.assertEqual(len(pieces(self.check(pair, ratio(99, 100)))), 2)
        # Just so large that both meet: their common side is no facet any more, and one box is left.
        closed = self.check(pair, ratio(1))
        self.assertEqual((len(pieces(closed)), len(closed[3])), (1, 1))
        self.assertEqual(len(self.check(pair, ratio(5, 4))[3]), 1)

    def test_a_corner_and_a_hole(self):
        ring = grid_body([(i, j, 0) for i in range(3) for j in range(3) if (i, j) != (1, 1)])
        self.assertEqual(len(self.check(ring, ratio(1, 4))[3]), 8)
        self.assertEqual(len(self.check(ring, ratio(1, 2))[3]), 1)
        self.check(grid_body([(0, 0, 0), (1, 1, 1)]), ratio(1, 4))
        self.check(grid_body([(0, 0, 0), (2, 2, 2)]), ratio(1, 2))
        self.check(grid_body([(0, 0, 0), (2, 2, 2)]), ratio(2, 3))

    def test_labels_count_nothing(self):
        halves = joined(block((0, 0, 0), (1, 1, 1)), block((1, 0, 0), (2, 1, 1), "g"))
        self.assertEqual(len(halves[3]), 2)
        self.assertEqual(self.check(halves, ratio(1, 2)), grown(block((0, 0, 0), (2, 1, 1)), ratio(1, 2)))

    def test_random_bodies(self):
        chance = random.Random(133)
        for _ in range(40):
            body = random_body(chance, "f")
            if body != EMPTY:
                self.check(body, ratio(chance.randint(1, 6), chance.randint(1, 5)))

    def test_twice(self):
        body = grid_body([(0, 0, 0), (3, 1, 0), (0, 2, 2)])
        self.assertEqual(grown(grown(body, ratio(1, 3)), ratio(1, 2)), grown(body, ratio(5, 6)))

    def test_the_empty_body(self):
        self.assertEqual(grown(EMPTY, ratio(1)), EMPTY)

    def test_not_numbers(self):
        for ask in (grown, shrunk, opened):
            for body in (BOX, EMPTY, staircase(60)):
                self.assertRaises(NotNumber, ask, body, ratio(0))
                self.assertRaises(NotNumber, ask, body, ratio(-1, 2))

    def test_just_20000_boxes(self):
        # The ends of unit boxes, larger by 1/2, are one more than the layers and then one: 20 * 25 * 40 boxes.
        found = grown(staircase(39, 19, 24), ratio(1, 2))
        self.assertTrue(is_body(found))
        self.assertRaises(TooLarge, grown, staircase(40, 19, 24), ratio(1, 2))
        self.assertRaises(TooLarge, grown, staircase(39, 19, 24), ratio(1, 3))


class Shrunk(unittest.TestCase):
    def check(self, body, by):
        found = shrunk(body, by)
        self.assertEqual(found, slow_shrunk(body, by))
        self.assertTrue(is_body(found))
        self.assertLessEqual(labels_of(found), {LESS})
        again = opened(body, by)
        self.assertTrue(is_body(again))
        self.assertLessEqual(labels_of(again), {BY})
        self.assertEqual(again, EMPTY if found == EMPTY else slow_grown(found, by))
        # The opened form has no place that the body has not.
        self.assertEqual(cut(again, body), EMPTY)
        return found

    def test_one_box(self):
        found = self.check(BOX, ratio(1, 2))
        self.assertEqual((extent(found), len(found[3])), ((triple("1/2", "1/2", "1/2"), triple("3/2", "3/2", "3/2")), 1))
        self.assertEqual(found[3][0][1], (LESS,) * 6)
        self.assertTrue(same_places(opened(BOX, ratio(1, 2)), BOX))
        # Just so much that nothing is left.
        self.assertEqual(self.check(BOX, ratio(1)), EMPTY)
        self.assertEqual(self.check(BOX, ratio(3)), EMPTY)
        self.assertEqual(opened(BOX, ratio(1)), EMPTY)
        self.assertNotEqual(self.check(BOX, ratio(999, 1000)), EMPTY)

    def test_pieces_that_fall_apart(self):
        # Two thick boxes with a thin bar between them.
        body = joined(joined(block((0, 0, 0), (3, 3, 3)), block((6, 0, 0), (9, 3, 3))), block((3, 1, 1), (6, 2, 2)))
        self.assertEqual(len(pieces(self.check(body, ratio(1, 4)))), 1)
        self.assertEqual(len(pieces(self.check(body, ratio(1, 2)))), 2)
        self.assertEqual(len(pieces(self.check(body, ratio(1)))), 2)
        self.assertEqual(self.check(body, ratio(3, 2)), EMPTY)
        # The bar goes when the body is opened, the boxes stay.
        left = opened(body, ratio(1, 2))
        self.assertTrue(same_places(left, joined(block((0, 0, 0), (3, 3, 3)), block((6, 0, 0), (9, 3, 3)))))

    def test_holes_and_notches_grow(self):
        whole = block((0, 0, 0), (6, 6, 6))
        hole = cut(whole, block((2, 2, -1), (4, 4, 7)))
        self.assertEqual(volume(self.check(hole, ratio(1, 2))), ratio(5 * 5 * 5 - 3 * 3 * 5))
        hollow = cut(whole, block((2, 2, 2), (4, 4, 4)))
        self.assertEqual(volume(self.check(hollow, ratio(1, 2))), ratio(125 - 27))
        notch = cut(whole, block((2, 2, 4), (4, 4, 7)))
        # The notch reaches from z = 4 up to the side, and is 3 wide and deep, and 3/2 high, when it has grown.
        self.assertEqual(volume(self.check(notch, ratio(1, 2))), ratio(125 * 2 - 3 * 3 * 4, 2))
        self.assertTrue(same_places(opened(hollow, ratio(1, 2)), hollow))

    def test_random_bodies(self):
        chance = random.Random(134)
        for _ in range(25):
            body = random_body(chance, "f", 2)
            if body != EMPTY:
                self.check(body, ratio(chance.randint(1, 4), chance.randint(2, 5)))

    def test_the_empty_body(self):
        self.assertEqual((shrunk(EMPTY, ratio(1)), opened(EMPTY, ratio(1))), (EMPTY, EMPTY))

    def test_too_large_by_a_step(self):
        # What lies around 12 boxes in a row has 14 layers along each axis, so 28 ends if it is grown by 1/4.
        self.assertEqual(volume(shrunk(staircase(12), ratio(1, 4))), ratio(12, 8))
        self.assertEqual(volume(opened(staircase(12), ratio(1, 4))), ratio(12))
        for ask in (shrunk, opened):
            self.assertRaises(TooLarge, ask, staircase(13), ratio(1, 4))
            # Already what is taken from the box of the extent has too many cuts.
            self.assertRaises(TooLarge, ask, staircase(27), ratio(1, 2))


class BoxDistance(unittest.TestCase):
    def check(self, body, other):
        found = box_distance(body, other)
        self.assertEqual(found, slow_distance(body, other))
        self.assertEqual(box_distance(other, body), found)
        # At least so far apart exactly if the grown one does not overlap the other one.
        for far in (ratio(1, 2), ratio(1), ratio(2), found, as_ratio(fraction(found) + Fraction(1, 7))):
            if far[0] > 0:
                bodies = {"a": grown(body, far), "b": other}
                self.assertIs(overlaps(bodies) == [], fraction(found) >= fraction(far))
        return found

    def test_along_one_two_and_three_axes(self):
        self.assertEqual(self.check(BOX, moved(BOX, triple(5, 0, 0))), ratio(3))
        self.assertEqual(self.check(BOX, moved(BOX, triple(5, -7, 0))), ratio(5))
        self.assertEqual(self.check(BOX, moved(BOX, triple(5, -7, 12))), ratio(10))
        self.assertEqual(self.check(BOX, moved(BOX, triple(0, "7/3", "9/4"))), ratio(1, 3))

    def test_touching(self):
        for by in (triple(2, 0, 0), triple(0, -2, 1), triple(2, 2, 0), triple(2, -2, 2)):
            self.assertEqual(self.check(BOX, moved(BOX, by)), ratio(0))

    def test_overlapping_and_in_one_another(self):
        self.assertEqual(self.check(BOX, moved(BOX, triple(1, 1, 1))), ratio(0))
        self.assertEqual(self.check(BOX, block((-1, -1, -1), (5, 5, 5))), ratio(0))
        self.assertEqual(self.check(BOX, BOX), ratio(0))
        shell = cut(block((0, 0, 0), (9, 9, 9)), block((2, 2, 2), (7, 7, 7)))
        self.assertEqual(self.check(shell, block((3, 4, 5), (6, 6, 6))), ratio(1))

    def test_random_bodies(self):
        chance = random.Random(33)
        for _ in range(60):
            body, other = random_body(chance, "f"), random_body(chance, "g", 2)
            by = tuple(ratio(chance.randint(-12, 12), chance.randint(1, 3)) for _ in range(3))
            if EMPTY not in (body, other):
                self.check(body, moved(other, by))

    def test_not_there(self):
        for pair in ((EMPTY, BOX), (BOX, EMPTY), (EMPTY, EMPTY)):
            self.assertRaises(NotThere, box_distance, *pair)


if __name__ == "__main__":
    unittest.main()
