import copy
import random
import unittest
from itertools import combinations, product

from mitrehouse.bodies import EMPTY, cut, extent, joined, turned, volume
from mitrehouse.errors import NotThere
from mitrehouse.making import can_be_drawn, hanging, is_reached, least_directions, left_over
from mitrehouse.ratios import ratio
from samples import STEPS, as_ratio, block, fraction, grid_body
from test_bodies import random_body, unit_cells
from test_measures import stretched

BOX = block((0, 0, 0), (2, 1, 1))
ALL = [0, 1, 2, 3, 4, 5]


def holed(axis, low, high):
    """Returns a box of 3 by 3 by 3 with a shaft along an axis, from low to high."""
    ends = [(1, 2)] * 3
    ends[axis] = (low, high)
    return cut(block((0, 0, 0), (3, 3, 3)), block(tuple(one for one, _ in ends), tuple(one for _, one in ends), "g"))


def slow_left(body, directions):
    """Returns the unit places within the extent of a body that are reached from none of the directions."""
    full = set(unit_cells(body))
    low, high = [[int(fraction(one)) for one in corner] for corner in extent(body)]
    found = []
    for place in product(*[range(low[axis], high[axis]) for axis in range(3)]):
        if place in full:
            continue
        for direction in directions:
            at = place
            while all(low[axis] <= at[axis] < high[axis] for axis in range(3)) and at not in full:
                at = tuple(one + by for one, by in zip(at, STEPS[direction]))
            if at not in full:
                break
        else:
            found.append(place)
    return found


def slow_least(body):
    enough = [chosen for size in range(7) for chosen in combinations(ALL, size) if not slow_left(body, chosen)]
    return [chosen for chosen in enough if not any(set(other) < set(chosen) for other in enough)]


class Reached(unittest.TestCase):
    def check(self, body):
        before = copy.deepcopy(body)
        for size in (0, 1, 2, 6):
            for chosen in combinations(ALL, size):
                left = slow_left(body, chosen)
                self.assertEqual(left_over(body, list(chosen)), ratio(len(left)))
                self.assertIs(is_reached(body, list(chosen)), not left)
        self.assertEqual(least_directions(body), slow_least(body))
        self.assertEqual(body, before)

    def test_a_full_box(self):
        self.check(BOX)
        self.assertEqual(least_directions(BOX), [()])
        self.assertIs(is_reached(BOX, []), True)
        self.assertEqual(left_over(BOX, []), ratio(0))

    def test_a_blind_hole_and_one_through(self):
        self.assertEqual(least_directions(holed(2, 1, 3)), [(5,)])
        self.assertEqual(least_directions(holed(2, 0, 2)), [(4,)])
        self.assertEqual(least_directions(holed(0, 0, 3)), [(0,), (1,)])
        self.assertEqual(least_directions(holed(1, 0, 1)), [(2,)])
        self.assertEqual(left_over(holed(2, 1, 3), [4]), ratio(2))
        self.assertEqual(left_over(holed(2, 1, 3), [5]), ratio(0))
        self.assertIs(is_reached(holed(2, 1, 3), [0, 1, 2, 3, 4]), False)
        for axis in range(3):
            for ends in ((0, 3), (1, 3), (0, 2)):
                self.check(holed(axis, *ends))

    def test_a_place_that_is_reached_from_nowhere(self):
        hollow = holed(2, 1, 2)
        self.assertEqual(least_directions(hollow), [])
        self.assertIs(is_reached(hollow, ALL), False)
        self.assertEqual((left_over(hollow, ALL), left_over(hollow, [])), (ratio(1), ratio(1)))
        self.check(hollow)

    def test_several_least_choices_of_different_lengths(self):
        # A groove along x in the upper side, and a blind hole from the left that does not reach it.
        body = cut(block((0, 0, 0), (5, 5, 5)), block((0, 2, 4), (5, 3, 5), "g"))
        body = cut(body, block((0, 1, 1), (2, 2, 2), "h"))
        self.assertEqual(least_directions(body), [(0,)])
        # With a pit from above besides, the groove comes with it; and a step at the corner with any.
        body = cut(body, block((3, 1, 2), (4, 4, 5), "k"))
        self.assertEqual(least_directions(body), [(0, 5)])
        self.check(body)
        one = cut(block((0, 0, 0), (3, 3, 3)), block((1, 1, 0), (2, 2, 3), "g"))
        two = cut(one, block((1, 0, 1), (2, 3, 2), "h"))
        # A shaft along z and one along y, which meet: one end of each has to be told.
        self.assertEqual(least_directions(two), [(2, 4), (2, 5), (3, 4), (3, 5)])
        self.check(two)
        ell = grid_body([(0, 0, 0), (0, 0, 1), (0, 1, 0), (0, 1, 1), (1, 0, 0), (1, 1, 0)])
        self.assertEqual(least_directions(ell), [(1,), (2,), (3,), (5,)])
        self.check(ell)

    def test_choices_of_one_and_of_two(self):
        # A slit between two walls, and a step at the corner: both from y or from above, or from the sides of each.
        body = cut(block((0, 0, 0), (4, 2, 3)), block((1, 0, 1), (2, 2, 3), "g"))
        body = cut(body, block((3, 0, 1), (4, 1, 3), "h"))
        self.assertEqual(least_directions(body), [(2,), (5,), (1, 3)])
        self.check(body)

    def test_told_twice_and_in_any_order(self):
        body = holed(2, 1, 3)
        self.assertIs(is_reached(body, [5, 5]), True)
        self.assertEqual((left_over(body, [4, 4]), left_over(body, [5, 0, 5])), (ratio(2), ratio(0)))

    def test_volumes(self):
        chance = random.Random(113)
        for _ in range(10):
            body = stretched(chance, random_body(chance, "f"))
            if body == EMPTY:
                continue
            low, high = extent(body)
            whole = 1
            for axis in range(3):
                whole *= fraction(high[axis]) - fraction(low[axis])
            self.assertEqual(left_over(body, []), as_ratio(whole - fraction(volume(body))))

    def test_random_bodies(self):
        chance = random.Random(114)
        for _ in range(25):
            body = random_body(chance, "f", 2)
            if body != EMPTY:
                self.check(body)

    def test_answers_are_new(self):
        least_directions(holed(0, 0, 3)).clear()
        self.assertEqual(least_directions(holed(0, 0, 3)), [(0,), (1,)])
        told = [5]
        is_reached(holed(2, 1, 3), told)
        self.assertEqual(told, [5])


class Moulds(unittest.TestCase):
    def test_columns(self):
        self.assertEqual([can_be_drawn(BOX, axis) for axis in range(3)], [True] * 3)
        shaft = holed(2, 0, 3)
        self.assertEqual([can_be_drawn(shaft, axis) for axis in range(3)], [False, False, True])
        ell = grid_body([(0, 0, 0), (1, 0, 0), (1, 1, 0), (1, 1, 1)])
        self.assertEqual([can_be_drawn(ell, axis) for axis in range(3)], [True] * 3)
        # One column with two runs, others with one and some with none.
        arch = grid_body([(0, 0, 0), (0, 0, 1), (1, 0, 1), (2, 0, 1), (2, 0, 0), (2, 2, 0)])
        self.assertEqual([can_be_drawn(arch, axis) for axis in range(3)], [False, False, True])
        self.assertEqual([can_be_drawn(turned(arch, 1), axis) for axis in range(3)], [False, False, True])

    def test_labels_end_no_run(self):
        body = joined(block((0, 0, 0), (1, 1, 1)), block((1, 0, 0), (2, 1, 1), "g"))
        self.assertEqual(len(body[3]), 2)
        self.assertIs(can_be_drawn(body, 0), True)


class Hanging(unittest.TestCase):
    def test_hanging(self):
        self.assertEqual(hanging(BOX), ratio(0))
        # A roof over a gap of 1 by 2.
        body = joined(block((0, 0, 0), (1, 2, 1)), block((0, 0, 1), (2, 2, 2), "g"))
        self.assertEqual(hanging(body), ratio(2))
        # Of a shaft along x the upper side hangs, of one along z nothing, of a blind one from below its end.
        self.assertEqual([hanging(holed(axis, 0, 3)) for axis in range(3)], [ratio(3), ratio(3), ratio(0)])
        self.assertEqual((hanging(holed(2, 0, 2)), hanging(holed(2, 1, 3)), hanging(holed(2, 1, 2))),
                         (ratio(1), ratio(0), ratio(1)))

    def test_the_least_z_is_that_of_the_body(self):
        body = joined(block((0, 0, 5), (1, 1, 6)), block((2, 0, 7), (4, 1, 8), "g"))
        self.assertEqual(hanging(body), ratio(2))

    def test_random_bodies(self):
        chance = random.Random(115)
        for _ in range(20):
            body = random_body(chance, "f")
            if body == EMPTY:
                continue
            units = unit_cells(body)
            low = min(place[2] for place in units)
            wanted = sum(labels[4] is not None and place[2] > low for place, labels in units.items())
            self.assertEqual(hanging(body), ratio(wanted))


class Errors(unittest.TestCase):
    def test_not_there(self):
        for ask in (lambda: is_reached(EMPTY, []), lambda: left_over(EMPTY, [0]), lambda: least_directions(EMPTY),
                    lambda: can_be_drawn(EMPTY, 0), lambda: hanging(EMPTY)):
            self.assertRaises(NotThere, ask)
        for one in (-1, 6, 99, True, None, "0"):
            for ask in (lambda: is_reached(BOX, [one]), lambda: left_over(BOX, [0, one]),
                        lambda: is_reached(holed(2, 1, 2), [0, 1, one])):
                self.assertRaises(NotThere, ask)
        for axis in (-1, 3, 5, True, None):
            self.assertRaises(NotThere, can_be_drawn, BOX, axis)


if __name__ == "__main__":
    unittest.main()
