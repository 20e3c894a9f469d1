import copy
import random
import unittest

from mitrehouse.bodies import EMPTY, extent, is_body, joined, moved, same_places, turned, volume
from mitrehouse.errors import NotThere
from mitrehouse.faces import faces
from mitrehouse.mirrors import mirrored, mirrors, spins
from mitrehouse.ratios import ratio
from samples import as_ratio, block, fraction, grid_body
from test_bodies import random_body, triple
from test_measures import stretched

BOX = block((0, 0, 0), (2, 1, 1))


def facets(body):
    """Returns the facets of a body: the direction, the ends along the three axes, as fractions, and the label."""
    found = set()
    for place, labels in body[3]:
        ends = [(fraction(body[a][place[a]]), fraction(body[a][place[a] + 1])) for a in range(3)]
        for d, label in enumerate(labels):
            if label is not None:
                sides = list(ends)
                sides[d // 2] = (ends[d // 2][d % 2],) * 2
                found.add((d, tuple(sides), label))
    return found


def mirrored_facet(facet, axis):
    d, sides, label = facet
    sides = list(sides)
    sides[axis] = (-sides[axis][1], -sides[axis][0])
    return (d ^ 1 if d // 2 == axis else d, tuple(sides), label)


def slow_mirrors(body):
    """The mirrors by trying the middles between all pairs of cuts, not just that of the extent."""
    found = []
    for axis in range(3):
        for twice in {fraction(one) + fraction(other) for one in body[axis] for other in body[axis]}:
            by = tuple(as_ratio(twice * (a == axis)) for a in range(3))
            if same_places(moved(mirrored(body, axis), by), body):
                found.append((axis, as_ratio(twice / 2)))
    return found


def slow_spins(body):
    """The spins by trying to move each cut of the turned body to each one of the body."""
    found = []
    for turns in (1, 2, 3):
        spun = turned(body, turns)
        shifts = [(fraction(x) - fraction(u), fraction(y) - fraction(v)) for x in body[0] for y in body[1]
                  for u in spun[0][:1] for v in spun[1][:1]]
        if any(same_places(moved(spun, (as_ratio(x), as_ratio(y), ratio(0))), body) for x, y in shifts):
            found.append(turns)
    return found


class Mirrored(unittest.TestCase):
    def check(self, body):
        before = copy.deepcopy(body)
        for axis in range(3):
            found = mirrored(body, axis)
            self.assertTrue(is_body(found))
            self.assertEqual(facets(found), {mirrored_facet(facet, axis) for facet in facets(body)})
            self.assertEqual(mirrored(found, axis), body)
            self.assertEqual(volume(found), volume(body))
            self.assertEqual(len(faces(found)), len(faces(body)))
        self.assertEqual(body, before)

    def test_a_box(self):
        found = mirrored(BOX, 0)
        self.assertEqual(extent(found), (triple(-2, 0, 0), triple(0, 1, 1)))
        # What looked against the x axis looks along it now, with its label.
        self.assertEqual([label[1] for label in found[3][0][1]], ["s1", "s0", "s2", "s3", "s4", "s5"])
        self.assertEqual([label[1] for label in mirrored(BOX, 1)[3][0][1]], ["s0", "s1", "s3", "s2", "s4", "s5"])
        self.assertEqual([label[1] for label in mirrored(BOX, 2)[3][0][1]], ["s0", "s1", "s2", "s3", "s5", "s4"])
        self.check(BOX)

    def test_random_bodies(self):
        chance = random.Random(140)
        for _ in range(30):
            self.check(stretched(chance, random_body(chance, "f")))

    def test_the_empty_body(self):
        self.assertEqual([mirrored(EMPTY, axis) for axis in range(3)], [EMPTY] * 3)

    def test_no_axis(self):
        for axis in (-1, 3, 7, True, None, "0"):
            self.assertRaises(NotThere, mirrored, BOX, axis)
            self.assertRaises(NotThere, mirrored, EMPTY, axis)


class Mirrors(unittest.TestCase):
    def check(self, body):
        self.assertEqual(mirrors(body), sorted(slow_mirrors(body)))
        self.assertEqual(spins(body), slow_spins(body))
        return [axis for axis, _ in mirrors(body)]

    def test_three(self):
        self.assertEqual(mirrors(BOX), [(0, ratio(1)), (1, ratio(1, 2)), (2, ratio(1, 2))])
        self.assertEqual(mirrors(moved(BOX, triple(-1, 5, "1/3"))), [(0, ratio(0)), (1, ratio(11, 2)), (2, ratio(5, 6))])
        self.assertEqual(self.check(BOX), [0, 1, 2])

    def test_some_and_none(self):
        self.assertEqual(self.check(grid_body([(0, 0, 0), (1, 0, 0), (0, 1, 0)])), [2])
        self.assertEqual(self.check(grid_body([(0, 0, 0), (1, 0, 0), (2, 0, 0), (1, 1, 0)])), [0, 2])
        self.assertEqual(self.check(grid_body([(0, 0, 0), (1, 0, 0), (1, 1, 0), (1, 1, 1)])), [])
        # The same number of boxes on both sides, but of other lengths.
        xs = (ratio(0), ratio(1), ratio(2), ratio(4))
        self.assertEqual(self.check(grid_body([(0, 0, 0), (2, 0, 0)], cuts=[xs, xs, xs])), [1, 2])

    def test_spins(self):
        self.assertEqual(spins(BOX), [2])
        self.assertEqual(spins(block((0, 0, 0), (2, 2, 5))), [1, 2, 3])
        self.assertEqual(spins(grid_body([(0, 0, 0), (1, 0, 0), (0, 1, 0)])), [])
        self.assertEqual(spins(grid_body([(0, 0, 0), (1, 0, 0), (1, 1, 0), (2, 1, 0)])), [2])
        # A wheel that has no mirror across x or y, but all spins.
        wheel = grid_body([(1, 1, 0), (0, 1, 0), (0, 2, 0), (1, 2, 0), (2, 2, 0), (2, 1, 0), (2, 0, 0), (1, 0, 0),
                           (0, 0, 0), (3, 0, 0), (2, 3, 0), (-1 + 1, 0, 0)])
        self.check(wheel)
        arms = grid_body([(2, 2, 0), (3, 2, 0), (4, 2, 0), (4, 3, 0), (2, 3, 0), (2, 4, 0), (1, 4, 0), (1, 2, 0),
                          (0, 2, 0), (0, 1, 0), (2, 1, 0), (2, 0, 0), (3, 0, 0)])
        self.assertEqual((spins(arms), self.check(arms)), ([1, 2, 3], [2]))

    def test_labels_count_nothing(self):
        halves = joined(block((0, 0, 0), (1, 2, 1)), block((1, 0, 0), (2, 2, 1), "g"))
        self.assertEqual((self.check(halves), spins(halves)), ([0, 1, 2], [1, 2, 3]))

    def test_random_bodies(self):
        chance = random.Random(54)
        for _ in range(60):
            body = random_body(chance, "f", chance.choice((2, 3)))
            if body != EMPTY:
                self.check(body)
                even = joined(body, moved(mirrored(body, 0), (ratio(9), ratio(0), ratio(0))))
                self.assertIn(0, self.check(even))

    def test_not_there(self):
        self.assertRaises(NotThere, mirrors, EMPTY)
        self.assertRaises(NotThere, spins, EMPTY)


if __name__ == "__main__":
    unittest.main()
