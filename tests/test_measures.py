import copy
import random
import unittest
from fractions import Fraction
from itertools import product

from mitrehouse.bodies import EMPTY, joined, moved, same_places, turned, volume
from mitrehouse.errors import NotThere
from mitrehouse.measures import (centre, flat_area, narrowest, runs, same_form, section, thin_flat, thinnest)
from mitrehouse.ratios import ratio
from samples import as_ratio, block, fraction, grid_body
from test_bodies import random_body, unit_cells

BOX = block((0, 0, 0), (2, 1, 1))
NO_FLAT = ((), (), ())


def next_two(axis):
    return {0: (1, 2), 1: (2, 0), 2: (0, 1)}[axis]


def stretched(chance, body):
    """Returns the body with its cuts moved apart by random fractions."""
    cuts = []
    for axis in range(3):
        at, found = Fraction(chance.randint(-9, 9), 4), []
        for _ in body[axis]:
            found.append(as_ratio(at))
            at += Fraction(chance.randint(1, 9), chance.randint(1, 6))
        cuts.append(tuple(found))
    return (*cuts, body[3])


def places_of(body):
    return {place for place, _ in body[3]}


def slow_runs(body, axis):
    """Returns the runs, by going up each column from the first layer to the last one."""
    u, v = next_two(axis)
    full, found = places_of(body), {}
    for i, j in product(range(len(body[u])), range(len(body[v]))):
        column, inside = [], False
        for k in range(len(body[axis])):
            place = [0, 0, 0]
            place[axis], place[u], place[v] = k, i, j
            if (tuple(place) in full) != inside:
                inside = not inside
                column.append(body[axis][k])
        if column:
            found[i, j] = list(zip(column[::2], column[1::2]))
    return found


def lengths(pairs):
    return [as_ratio(fraction(high) - fraction(low)) for low, high in pairs]


def least(ratios):
    return min(ratios, key=fraction) if ratios else None


class Columns(unittest.TestCase):
    def check(self, body):
        before = copy.deepcopy(body)
        for axis in range(3):
            wanted = slow_runs(body, axis)
            self.assertEqual(runs(body, axis), wanted)
            thick = [one for column in wanted.values() for one in lengths(column)]
            gaps = [one for column in wanted.values()
                    for one in lengths([(column[k][1], column[k + 1][0]) for k in range(len(column) - 1)])]
            self.assertEqual(thinnest(body, axis), least(thick))
            self.assertEqual(narrowest(body, axis), least(gaps))
        self.assertEqual(body, before)

    def test_box(self):
        self.check(BOX)
        self.assertEqual([thinnest(BOX, axis) for axis in range(3)], [ratio(2), ratio(1), ratio(1)])
        self.assertEqual([narrowest(BOX, axis) for axis in range(3)], [None] * 3)
        self.assertEqual(runs(BOX, 0), {(0, 0): [(ratio(0), ratio(2))]})

    def test_columns_are_told_along_the_next_axes(self):
        body = block((0, 0, 0), (2, 3, 5))
        body = joined(body, block((2, 0, 0), (3, 1, 1), "g"))
        # Behind y come z and x: the column of the small box lies at the first z and the second x.
        self.assertEqual(runs(body, 1), {(0, 0): [(ratio(0), ratio(3))], (1, 0): [(ratio(0), ratio(3))],
                                         (0, 1): [(ratio(0), ratio(1))]})
        self.check(body)

    def test_neighbouring_cells_are_one_run(self):
        body = joined(joined(block((0, 0, 0), (1, 1, 1)), block((1, 0, 0), (3, 1, 1), "g")), block((4, 0, 0), (5, 1, 1)))
        self.assertEqual(len(body[3]), 3)
        self.assertEqual(runs(body, 0), {(0, 0): [(ratio(0), ratio(3)), (ratio(4), ratio(5))]})
        self.assertEqual((thinnest(body, 0), narrowest(body, 0)), (ratio(1), ratio(1)))
        self.check(body)

    def test_gaps_and_pieces(self):
        body = grid_body([(0, 0, 0), (2, 0, 0), (6, 0, 0), (2, 3, 1)])
        self.assertEqual((thinnest(body, 0), narrowest(body, 0)), (ratio(1), ratio(1)))
        self.assertEqual((narrowest(body, 1), narrowest(body, 2)), (None, None))
        self.check(body)
        # The least gap need not be the first one, nor that in the first column.
        body = grid_body([(0, 0, 0), (5, 0, 0), (0, 1, 0), (4, 1, 0), (6, 1, 0), (0, 2, 0), (4, 2, 0)])
        self.assertEqual(narrowest(body, 0), ratio(1))
        self.check(body)

    def test_random_bodies(self):
        chance = random.Random(110)
        for _ in range(40):
            body = stretched(chance, random_body(chance, "f"))
            if body != EMPTY:
                self.check(body)

    def test_answers_are_new(self):
        runs(BOX, 0)[0, 0].clear()
        runs(BOX, 0).clear()
        self.assertEqual(runs(BOX, 0), {(0, 0): [(ratio(0), ratio(2))]})


class Centre(unittest.TestCase):
    def test_box(self):
        self.assertEqual(centre(BOX), (ratio(1), ratio(1, 2), ratio(1, 2)))
        self.assertEqual(centre(moved(BOX, (ratio(1, 3), ratio(-5), ratio(0)))), (ratio(4, 3), ratio(-9, 2), ratio(1, 2)))

    def test_several_boxes(self):
        # A box of 2 at the x of 1 and one of 4 at the x of 12.
        body = joined(BOX, block((11, 0, 0), (13, 2, 1)))
        self.assertEqual(centre(body), (ratio(50, 6), ratio(5, 6), ratio(1, 2)))
        self.assertEqual(centre(turned(body, 1)), (ratio(-5, 6), ratio(50, 6), ratio(1, 2)))

    def test_random_bodies(self):
        chance = random.Random(111)
        for _ in range(30):
            body = stretched(chance, random_body(chance, "f"))
            if body == EMPTY:
                continue
            sums = [Fraction(0)] * 4
            for place, _ in body[3]:
                ends = [(fraction(body[a][place[a]]), fraction(body[a][place[a] + 1])) for a in range(3)]
                size = 1
                for low, high in ends:
                    size *= high - low
                sums = [sums[a] + size * (ends[a][0] + ends[a][1]) / 2 for a in range(3)] + [sums[3] + size]
            self.assertEqual(sums[3], fraction(volume(body)))
            self.assertEqual(centre(body), tuple(as_ratio(sums[a] / sums[3]) for a in range(3)))


class Sections(unittest.TestCase):
    def slow_section(self, body, axis, at):
        """Returns the rectangles of the section, as fractions."""
        u, v = next_two(axis)
        found = set()
        for place, _ in body[3]:
            low, high = fraction(body[axis][place[axis]]), fraction(body[axis][place[axis] + 1])
            if low <= at < high:
                found.add((place[u], place[v]))
        return found

    def covered(self, flat, spot):
        """Returns True if a spot that is on no cut lies in a cell of a flat."""
        us, vs = [[fraction(one) for one in cuts] for cuts in flat[:2]]
        i, j = sum(cut < spot[0] for cut in us) - 1, sum(cut < spot[1] for cut in vs) - 1
        return (i, j) in flat[2]

    def check(self, body, axis, at):
        flat = section(body, axis, as_ratio(Fraction(at)))
        self.check_thin(flat)
        u, v = next_two(axis)
        wanted = self.slow_section(body, axis, at)
        for i, j in product(range(len(body[u]) - 1), range(len(body[v]) - 1)):
            spot = [(fraction(body[a][k]) + fraction(body[a][k + 1])) / 2 for a, k in ((u, i), (v, j))]
            self.assertIs(self.covered(flat, spot), (i, j) in wanted)
        area = sum([(fraction(body[u][i + 1]) - fraction(body[u][i])) * (fraction(body[v][j + 1]) - fraction(body[v][j]))
                    for i, j in wanted], Fraction(0))
        self.assertEqual(fraction(flat_area(flat)), area)
        return flat

    def check_thin(self, flat):
        us, vs, cells = flat
        self.assertEqual(cells, tuple(sorted(set(cells))))
        if not cells:
            self.assertEqual(flat, NO_FLAT)
            return
        for axis, cuts in enumerate((us, vs)):
            rows = [{cell[1 - axis] for cell in cells if cell[axis] == k} for k in range(len(cuts) - 1)]
            self.assertTrue(rows[0] and rows[-1])
            self.assertTrue(all(rows[k] != rows[k + 1] for k in range(len(rows) - 1)))
            self.assertEqual(max(cell[axis] for cell in cells), len(cuts) - 2)

    def test_a_body_with_steps(self):
        body = joined(block((0, 0, 0), (3, 3, 1)), block((0, 0, 1), (2, 1, 2), "g"))
        low = ((ratio(0), ratio(3)), (ratio(0), ratio(3)), ((0, 0),))
        high = ((ratio(0), ratio(2)), (ratio(0), ratio(1)), ((0, 0),))
        for at, wanted in ((-1, NO_FLAT), (0, low), (Fraction(1, 2), low), (1, high), (Fraction(3, 2), high),
                           (2, NO_FLAT), (3, NO_FLAT)):
            self.assertEqual(self.check(body, 2, at), wanted, at)
        # Across the x axis: y and z.
        self.assertEqual(self.check(body, 0, 0), ((ratio(0), ratio(1), ratio(3)), (ratio(0), ratio(1), ratio(2)),
                                                  ((0, 0), (0, 1), (1, 0))))
        self.assertEqual(self.check(body, 0, 2), ((ratio(0), ratio(3)), (ratio(0), ratio(1)), ((0, 0),)))
        # Across the y axis: z and x.
        self.assertEqual(self.check(body, 1, 0), ((ratio(0), ratio(1), ratio(2)), (ratio(0), ratio(2), ratio(3)),
                                                  ((0, 0), (0, 1), (1, 0))))

    def test_labels_make_no_rows(self):
        body = joined(block((0, 0, 0), (1, 1, 1)), block((1, 0, 0), (2, 1, 1), "g"))
        self.assertEqual(len(body[0]), 3)
        self.assertEqual(section(body, 2, ratio(0)), ((ratio(0), ratio(2)), (ratio(0), ratio(1)), ((0, 0),)))

    def test_random_bodies(self):
        chance = random.Random(112)
        for _ in range(20):
            body = stretched(chance, random_body(chance, "f"))
            if body == EMPTY:
                continue
            for axis in range(3):
                cuts = [fraction(cut) for cut in body[axis]]
                ends = [(one + other) / 2 for one, other in zip(cuts, cuts[1:])]
                for at in cuts + ends + [cuts[0] - 1, cuts[-1] + 1]:
                    self.check(body, axis, at)

    def test_the_empty_body(self):
        for axis in range(3):
            self.assertEqual(section(EMPTY, axis, ratio(0)), NO_FLAT)

    def test_flats(self):
        us = tuple(ratio(at) for at in (0, 1, 3, 4, 9))
        vs = (ratio(0), ratio(1, 2), ratio(1))
        self.assertEqual(thin_flat(us, vs, []), NO_FLAT)
        self.assertEqual(flat_area(NO_FLAT), ratio(0))
        self.assertEqual(thin_flat((), (), []), NO_FLAT)
        # The first and the last row go, and two rows that are the same become one.
        cells = [(2, 1), (1, 0), (2, 0), (1, 1)]
        self.assertEqual(thin_flat(us, vs, cells), ((ratio(1), ratio(4)), (ratio(0), ratio(1)), ((0, 0),)))
        self.assertEqual(flat_area((us, vs, tuple(cells))), ratio(3))
        self.assertEqual(flat_area((us, vs, ((3, 1), (0, 0)))), ratio(3))
        # Rows without cells between others stay, but as one row.
        self.assertEqual(thin_flat(us, vs, [(3, 0), (0, 0)]),
                         ((ratio(0), ratio(1), ratio(4), ratio(9)), (ratio(0), ratio(1, 2)), ((0, 0), (2, 0))))
        self.assertEqual(cells, [(2, 1), (1, 0), (2, 0), (1, 1)])

    def test_random_flats(self):
        chance = random.Random(113)
        us, vs = [tuple(ratio(k * k, 2) for k in range(6))] * 2
        for _ in range(60):
            cells = [cell for cell in product(range(5), repeat=2) if chance.random() < 0.6]
            chance.shuffle(cells)
            flat = thin_flat(us, vs, cells)
            self.check_thin(flat)
            for i, j in product(range(5), repeat=2):
                spot = [(fraction(us[k]) + fraction(us[k + 1])) / 2 for k in (i, j)]
                self.assertIs(bool(cells) and self.covered(flat, spot), (i, j) in cells)
            self.assertEqual(flat_area(flat), flat_area((us, vs, tuple(cells))))


class SameForm(unittest.TestCase):
    def setUp(self):
        # No turn and no mirror makes it what it was.
        self.body = grid_body([(0, 0, 0), (1, 0, 0), (2, 0, 0), (2, 1, 0), (0, 0, 1)])

    def test_turned_and_moved(self):
        by = (ratio(7, 3), ratio(-4), ratio(1, 2))
        for turns in range(4):
            other = moved(turned(self.body, turns), by)
            self.assertEqual(same_form(self.body, other), (turns, by))
            back = same_form(other, self.body)
            self.assertEqual(back[0], (4 - turns) % 4)
            self.assertTrue(same_places(moved(turned(other, back[0]), back[1]), self.body))

    def test_the_least_number_of_turns(self):
        for size, wanted in (((2, 1, 1), (0, 1, 0, 1)), ((1, 1, 3), (0, 0, 0, 0))):
            body = block((0, 0, 0), size)
            self.assertEqual([same_form(body, turned(body, turns))[0] for turns in range(4)], list(wanted))
        self.assertEqual(same_form(BOX, turned(BOX, 2)), (0, (ratio(-2), ratio(-1), ratio(0))))
        self.assertEqual(same_form(BOX, turned(BOX, 1)), (1, (ratio(0), ratio(0), ratio(0))))

    def test_other_labels_and_cuts(self):
        other = joined(block((5, 0, 0), (6, 1, 1), "g"), block((6, 0, 0), (7, 1, 1), "h"))
        self.assertEqual(same_form(BOX, other), (0, (ratio(5), ratio(0), ratio(0))))
        self.assertEqual(same_form(other, BOX), (0, (ratio(-5), ratio(0), ratio(0))))

    def test_other_forms(self):
        mirrored = grid_body([(2 - i, j, k) for (i, j, k), _ in self.body[3]])
        larger = grid_body([place for place, _ in self.body[3]], cuts=[tuple(ratio(2 * k) for k in range(4))] * 3)
        more = grid_body([(0, 0, 0), (1, 0, 0), (2, 0, 0), (2, 1, 0), (0, 0, 1), (0, 1, 0)])
        standing = block((0, 0, 0), (1, 1, 2))
        for body, other in ((self.body, mirrored), (self.body, larger), (self.body, more), (BOX, standing)):
            self.assertIsNone(same_form(body, other))
            self.assertIsNone(same_form(other, body))

    def test_random_bodies(self):
        chance = random.Random(114)
        found = 0
        for _ in range(120):
            body = random_body(chance, "f", 2)
            other = random_body(chance, "g", 2)
            if EMPTY in (body, other):
                continue
            if chance.random() < 0.3:
                other = moved(turned(body, chance.randint(0, 3)), tuple(ratio(chance.randint(-2, 2)) for _ in range(3)))
            told = same_form(body, other)
            wanted = [turns for turns in range(4) if self.moved_onto(turned(body, turns), other)]
            self.assertEqual(told and told[0], wanted[0] if wanted else None)
            if told:
                found += 1
                self.assertTrue(same_places(moved(turned(body, told[0]), told[1]), other))
        self.assertGreater(found, 10)

    def moved_onto(self, body, other):
        """Returns True if the unit cells of a body, moved to the same least ones, are those of another one."""
        cells = []
        for one in (body, other):
            places = set(unit_cells(one))
            low = [min(place[axis] for place in places) for axis in range(3)]
            cells.append({tuple(place[axis] - low[axis] for axis in range(3)) for place in places})
        return cells[0] == cells[1]


class Errors(unittest.TestCase):
    def test_empty_bodies(self):
        for ask in (lambda: centre(EMPTY), lambda: thinnest(EMPTY, 0), lambda: narrowest(EMPTY, 1),
                    lambda: runs(EMPTY, 2), lambda: same_form(EMPTY, BOX), lambda: same_form(BOX, EMPTY),
                    lambda: same_form(EMPTY, EMPTY), lambda: runs(EMPTY, 5)):
            self.assertRaises(NotThere, ask)

    def test_axes_that_are_none(self):
        for axis in (-1, 3, 99, True, None, "0"):
            for ask in (lambda: thinnest(BOX, axis), lambda: narrowest(BOX, axis), lambda: runs(BOX, axis),
                        lambda: section(BOX, axis, ratio(0)), lambda: section(EMPTY, axis, ratio(0))):
                self.assertRaises(NotThere, ask)


if __name__ == "__main__":
    unittest.main()
