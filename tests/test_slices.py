import copy
import random
import unittest
from fractions import Fraction
from itertools import product

from mitrehouse.bodies import EMPTY, cut
from mitrehouse.errors import NotNumber, NotRight, NotThere, TooLarge
from mitrehouse.measures import flat_area, section, thin_flat
from mitrehouse.ratios import ratio, total
from mitrehouse.slices import flat_of, ring_area, ring_length, rings_of, slices
from samples import as_ratio, block, fraction, grid_body
from test_bodies import random_body
from test_measures import stretched

BOX = block((0, 0, 0), (2, 1, 1))
NO_FLAT = ((), (), ())
LEFT = {(1, 0): (0, 1), (0, 1): (-1, 0), (-1, 0): (0, -1), (0, -1): (1, 0)}


def flat(cells, cuts=None):
    """Returns the thin flat of cells between integer cuts, or the told ones."""
    cuts = cuts or tuple(ratio(k) for k in range(12))
    return thin_flat(cuts, cuts, cells)


def spots(*numbers):
    """Returns a ring of integers, two for each corner."""
    return [(ratio(u), ratio(v)) for u, v in zip(numbers[::2], numbers[1::2])]


def slow_rings(told):
    """Returns the rings, walked side by side; a side is a pair of the place where it begins and its step."""
    us, vs, cells = told
    there = set(cells)
    sides = set()
    for i, j in cells:
        for start, step, other in (((i, j), (1, 0), (i, j - 1)), ((i + 1, j), (0, 1), (i + 1, j)),
                                   ((i + 1, j + 1), (-1, 0), (i, j + 1)), ((i, j + 1), (0, -1), (i - 1, j))):
            if other not in there:
                sides.add((start, step))
    found = []
    while sides:
        start = place, step = min(sides)
        walk = []
        while True:
            walk.append((place, step))
            sides.remove((place, step))
            place = (place[0] + step[0], place[1] + step[1])
            begin = [way for at, way in sides | {start} if at == place]
            if (place, LEFT[step]) in sides | {start}:
                begin = [LEFT[step]]
            step = begin[0]
            if (place, step) == start:
                break
        turns = [at for k, (at, way) in enumerate(walk) if walk[k - 1][1] != way]
        first = turns.index(min(turns))
        found.append(turns[first:] + turns[:first])
    return [[(us[i], vs[j]) for i, j in ring] for ring in sorted(found)]


def slow_area(ring):
    parts = [fraction(p[0]) * fraction(q[1]) - fraction(q[0]) * fraction(p[1]) for p, q in zip(ring, ring[1:] + ring[:1])]
    return as_ratio(Fraction(sum(parts)) / 2)


def slow_length(ring):
    return as_ratio(Fraction(sum(abs(fraction(p[a]) - fraction(q[a])) for p, q in zip(ring, ring[1:] + ring[:1]) for a in (0, 1))))


def random_flat(chance, size=5):
    cells = [cell for cell in product(range(size), repeat=2) if chance.random() < chance.choice((0.3, 0.5, 0.8))]
    at, cuts = Fraction(chance.randint(-9, 9), 3), []
    for _ in range(size + 1):
        cuts.append(as_ratio(at))
        at += Fraction(chance.randint(1, 9), chance.randint(1, 6))
    return flat(cells, tuple(cuts))


class Rings(unittest.TestCase):
    def check(self, told):
        before = copy.deepcopy(told)
        found = rings_of(told)
        self.assertEqual(found, slow_rings(told))
        for ring in found:
            self.assertEqual(ring_area(ring), slow_area(ring))
            self.assertEqual(ring_length(ring), slow_length(ring))
            self.assertNotEqual(ring_area(ring), ratio(0))
            self.assertEqual(ring.count(ring[0]), 1)
            self.assertEqual(min(ring, key=lambda spot: (fraction(spot[0]), fraction(spot[1]))), ring[0])
            sides = list(zip(ring, ring[1:] + ring[:1]))
            self.assertEqual(len(set(sides)), len(sides))
        # The areas of all rings are that of the flat, and the rings alone tell the flat.
        self.assertEqual(total([ring_area(ring) for ring in found]), flat_area(told))
        self.assertEqual(flat_of(found), told)
        self.assertEqual(told, before)
        return found

    def test_one_cell(self):
        self.assertEqual(self.check(flat([(0, 0)])), [spots(0, 0, 1, 0, 1, 1, 0, 1)])
        self.assertEqual(self.check(flat([(3, 5), (4, 5)])), [spots(3, 5, 5, 5, 5, 6, 3, 6)])

    def test_the_empty_flat(self):
        self.assertEqual((rings_of(NO_FLAT), flat_of([])), ([], NO_FLAT))

    def test_holes_and_islands(self):
        ring = [(i, j) for i in range(5) for j in range(5) if 0 in (i, j) or 4 in (i, j)]
        outer, hole = spots(0, 0, 5, 0, 5, 5, 0, 5), spots(1, 1, 1, 4, 4, 4, 4, 1)
        self.assertEqual(self.check(flat(ring)), [outer, hole])
        self.assertEqual([ring_area(one) for one in rings_of(flat(ring))], [ratio(25), ratio(-9)])
        self.assertEqual(self.check(flat(ring + [(2, 2)])), [outer, hole, spots(2, 2, 3, 2, 3, 3, 2, 3)])
        self.assertEqual(total([ring_length(one) for one in rings_of(flat(ring + [(2, 2)]))]), ratio(20 + 12 + 4))

    def test_several_parts_in_order_of_their_first_corners(self):
        found = self.check(flat([(0, 4), (0, 0), (2, 0), (1, 2)]))
        self.assertEqual([ring[0] for ring in found], [(ratio(u), ratio(v)) for u, v in ((0, 0), (0, 4), (1, 2), (2, 0))])
        # By worth: 1/2 comes ahead of 2/3 and of 1, and -1/2 ahead of -1/3.
        cuts = (ratio(-1, 2), ratio(-1, 3), ratio(1, 2), ratio(2, 3), ratio(1), ratio(2))
        found = self.check(flat([(0, 0), (2, 2), (4, 4), (0, 2), (0, 4), (2, 0)], cuts))
        self.assertEqual([ring[0] for ring in found], [(cuts[i], cuts[j]) for i, j in
                                                       ((0, 0), (0, 2), (0, 4), (2, 0), (2, 2), (4, 4))])

    def test_cells_that_touch_at_a_corner_alone(self):
        # From outside each one has its own ring; two holes have one ring, which passes the corner twice.
        self.assertEqual(self.check(flat([(0, 0), (1, 1)])), [spots(0, 0, 1, 0, 1, 1, 0, 1), spots(1, 1, 2, 1, 2, 2, 1, 2)])
        self.assertEqual(self.check(flat([(0, 1), (1, 0)])), [spots(0, 1, 1, 1, 1, 2, 0, 2), spots(1, 0, 2, 0, 2, 1, 1, 1)])
        plate = [(i, j) for i in range(4) for j in range(4)]
        found = self.check(flat([cell for cell in plate if cell not in ((1, 1), (2, 2))]))
        self.assertEqual(found[1], spots(1, 1, 1, 2, 2, 2, 2, 3, 3, 3, 3, 2, 2, 2, 2, 1))
        found = self.check(flat([cell for cell in plate if cell not in ((1, 2), (2, 1))]))
        self.assertEqual(found[1], spots(1, 2, 1, 3, 2, 3, 2, 2, 3, 2, 3, 1, 2, 1, 2, 2))
        # A notch that touches a hole: both have a ring with the outside.
        self.check(flat([cell for cell in plate if cell not in ((1, 1), (0, 0))]))
        self.check(flat([cell for cell in plate if (cell[0] + cell[1]) % 2]))
        self.check(flat([cell for cell in plate if (cell[0] + cell[1]) % 2 == 0]))

    def test_random_flats(self):
        chance = random.Random(170)
        for _ in range(120):
            self.check(random_flat(chance))

    def test_sections(self):
        chance = random.Random(172)
        for _ in range(30):
            body = stretched(chance, random_body(chance, "f"))
            for axis in range(3):
                for at in body[axis]:
                    self.check(section(body, axis, at))


class FlatOf(unittest.TestCase):
    def not_right(self, rings):
        self.assertRaises(NotRight, flat_of, rings)

    def test_rings_of_no_flat(self):
        outer, hole, island = spots(0, 0, 5, 0, 5, 5, 0, 5), spots(1, 1, 1, 4, 4, 4, 4, 1), spots(2, 2, 3, 2, 3, 3, 2, 3)
        self.assertEqual(flat_area(flat_of([outer, hole, island])), ratio(17))
        # Without the island, or without both, it is another flat; an island alone is one, too.
        for rings, area in (([outer, hole], 16), ([outer], 25), ([island], 1)):
            self.assertEqual(flat_area(flat_of(rings)), ratio(area))
        for rings in ([outer, island], [hole], [hole, island], [hole, outer, island], [outer, island, hole], [island, outer, hole],
                      [outer, hole, island, island], [outer, outer], [outer, hole, hole], [outer, hole[::-1]], [outer[::-1]],
                      [outer[1:] + outer[:1]], [outer, hole[1:] + hole[:1]], [[]], [outer, []], [outer[:3]], [outer[:2]],
                      [outer[:1]], [outer[:1] * 4]):
            self.not_right(rings)

    def test_sides_that_are_neither_level_nor_plumb(self):
        self.not_right([spots(0, 0, 2, 0, 2, 2, 1, 3)])
        self.not_right([spots(0, 0, 1, 1, 0, 2, -1, 1)])
        self.not_right([spots(0, 0, 1, 0, 1, 0, 1, 1, 0, 1)])
        self.not_right([spots(0, 0, 1, 0, 1, 1)])

    def test_corners_on_a_side(self):
        self.not_right([spots(0, 0, 1, 0, 2, 0, 2, 2, 0, 2)])
        self.not_right([spots(0, 0, 2, 0, 2, 2, 1, 2, 0, 2)])

    def test_rings_that_cross_or_touch_wrongly(self):
        self.not_right([spots(0, 0, 2, 0, 2, 2, 0, 2), spots(1, 1, 3, 1, 3, 3, 1, 3)])
        self.not_right([spots(0, 0, 2, 0, 2, 2, 0, 2), spots(2, 0, 4, 0, 4, 2, 2, 2)])
        # Two holes that touch at a corner have one ring, and two cells outside have two.
        plate = spots(0, 0, 4, 0, 4, 4, 0, 4)
        self.not_right([plate, spots(1, 1, 1, 2, 2, 2, 2, 1), spots(2, 2, 2, 3, 3, 3, 3, 2)])
        self.not_right([spots(0, 0, 1, 0, 1, 1, 2, 1, 2, 2, 1, 2, 1, 1, 0, 1)])

    def test_random_changes(self):
        chance = random.Random(171)
        for _ in range(150):
            told = random_flat(chance, 4)
            rings = rings_of(told)
            if not rings:
                continue
            k = chance.randrange(len(rings))
            ring = rings[k]
            n = chance.randrange(len(ring))
            spot = (as_ratio(fraction(ring[n][0]) + 1), ring[n][1])
            for changed in (rings[:k] + rings[k + 1:], rings[:k] + [ring] + rings[k:], rings[:k] + [ring[::-1]] + rings[k + 1:],
                            rings[:k] + [ring[n:] + ring[:n]] + rings[k + 1:], rings[::-1],
                            rings[:k] + [ring[:n] + [spot] + ring[n + 1:]] + rings[k + 1:],
                            rings[:k] + [ring[:n] + ring[n + 1:]] + rings[k + 1:]):
                try:
                    found = flat_of(changed)
                except NotRight:
                    found = None
                # Whatever is taken has just these rings.
                self.assertTrue(found is None or slow_rings(found) == changed)
                self.assertTrue(found is not None or changed != rings)


class Slices(unittest.TestCase):
    def check(self, body, axis, thickness):
        found = slices(body, axis, thickness)
        low, high, step = fraction(body[axis][0]), fraction(body[axis][-1]), fraction(thickness)
        wanted, at = [], low + step / 2
        while at < high:
            wanted.append((as_ratio(at), section(body, axis, as_ratio(at))))
            at += step
        self.assertEqual(found, wanted)
        return [at for at, _ in found]

    def test_thicknesses(self):
        self.assertEqual(self.check(BOX, 2, ratio(1, 3)), [ratio(1, 6), ratio(1, 2), ratio(5, 6)])
        self.assertEqual(self.check(BOX, 0, ratio(1)), [ratio(1, 2), ratio(3, 2)])
        # 3/4 divides 2 twice and 2/3: the third slice lies at 15/8, which is still below 2.
        self.assertEqual(self.check(BOX, 0, ratio(3, 4)), [ratio(3, 8), ratio(9, 8), ratio(15, 8)])
        self.assertEqual(self.check(BOX, 0, ratio(4, 5)), [ratio(2, 5), ratio(6, 5)])
        # Thicker than the body: one slice as long as the half is below the extent.
        self.assertEqual(self.check(BOX, 2, ratio(1)), [ratio(1, 2)])
        self.assertEqual(self.check(BOX, 2, ratio(19, 10)), [ratio(19, 20)])
        self.assertEqual(self.check(BOX, 2, ratio(2)), [])
        self.assertEqual(self.check(BOX, 2, ratio(99)), [])

    def test_sections_at_cuts_and_gaps(self):
        body = grid_body([(0, 0, 0), (0, 0, 2), (1, 0, 2)])
        self.assertEqual([fl for _, fl in slices(body, 2, ratio(1))],
                         [flat([(0, 0)]), NO_FLAT, flat([(0, 0), (1, 0)], tuple(ratio(k) for k in (0, 1, 2)))])
        # A slice just at a cut shows what lies above it.
        self.check(body, 2, ratio(2))
        self.assertEqual(slices(body, 2, ratio(2))[0], (ratio(1), NO_FLAT))

    def test_random_bodies(self):
        chance = random.Random(173)
        for _ in range(30):
            body = stretched(chance, random_body(chance, "f"))
            if body != EMPTY:
                self.check(body, chance.randrange(3), ratio(chance.randint(1, 9), chance.randint(2, 9)))

    def test_1000_slices(self):
        tall = cut(block((0, 0, -3), (1, 1, 7)), block((0, 0, 0), (1, 1, 1)))
        self.assertEqual(len(slices(tall, 2, ratio(1, 100))), 1000)
        self.assertEqual(len(slices(tall, 2, ratio(20, 2001))), 1000)
        self.assertRaises(TooLarge, slices, tall, 2, ratio(20, 2002))
        self.assertRaises(TooLarge, slices, tall, 2, ratio(1, 10 ** 40))
        self.assertEqual(len(self.check(tall, 2, ratio(1, 7))), 70)

    def test_errors_in_their_order(self):
        for axis in (-1, 3, True, None):
            self.assertRaises(NotThere, slices, BOX, axis, ratio(1))
            self.assertRaises(NotThere, slices, BOX, axis, ratio(0))
        self.assertRaises(NotThere, slices, EMPTY, 0, ratio(1))
        self.assertRaises(NotThere, slices, EMPTY, 0, ratio(0))
        self.assertRaises(NotNumber, slices, BOX, 0, ratio(0))
        self.assertRaises(NotNumber, slices, BOX, 0, ratio(-1, 10 ** 9))
        self.assertRaises(TooLarge, slices, BOX, 0, ratio(1, 10 ** 9))


if __name__ == "__main__":
    unittest.main()
