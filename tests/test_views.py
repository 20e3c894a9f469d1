import copy
import random
import unittest
from itertools import product

from mitrehouse.bodies import EMPTY, cut, joined, moved
from mitrehouse.errors import NotThere
from mitrehouse.faces import face_area, faces
from mitrehouse.ratios import ratio
from mitrehouse.views import line_length, seen_parts, view, view_lines
from samples import as_ratio, block, fraction, grid_body, label_of
from test_bodies import random_body, unit_cells
from test_measures import next_two, stretched

BOX = block((0, 0, 0), (2, 1, 1))
# A low step and a high one, of two labels.
STEPS = joined(block((0, 0, 0), (3, 2, 1)), block((0, 0, 0), (1, 2, 2), "g"))


def slow_seen(body, direction):
    """Returns the dict from unit columns to the plane and the label that are seen, for integer cuts."""
    axis = direction // 2
    u, v = next_two(axis)
    way = 1 if direction % 2 == 1 else -1
    found = {}
    for place, labels in sorted(unit_cells(body).items(), key=lambda cell: way * cell[0][axis]):
        # The last one of a column is the one that lies furthest.
        found[place[u], place[v]] = (ratio(place[axis] + direction % 2), labels[direction])
    return found


def whole(one):
    assert one[1] == 1
    return one[0]


def view_units(seen):
    """Returns the dict from unit columns to the plane and the label of a view with integer cuts."""
    us, vs, cells = seen
    found = {}
    for (i, j), plane, label in cells:
        for x, y in product(range(whole(us[i]), whole(us[i + 1])), range(whole(vs[j]), whole(vs[j + 1]))):
            found[x, y] = (plane, label)
    return found


def line_units(lines):
    """Returns the list of the unit sides of lines: the axis, the cut, and the lower end."""
    return [(along, whole(at), x) for along, at, low, high in lines for x in range(whole(low), whole(high))]


def slow_lines(seen):
    """Returns the unit sides between columns of which one has something else than the other one."""
    found = set()
    for x, y in product(range(-10, 20), repeat=2):
        if seen.get((x, y)) != seen.get((x, y - 1)):
            found.add(("u", y, x))
        if seen.get((x, y)) != seen.get((x - 1, y)):
            found.add(("v", x, y))
    return found


class Views(unittest.TestCase):
    def check(self, body):
        before = copy.deepcopy(body)
        for direction in range(6):
            seen = view(body, direction)
            wanted = slow_seen(body, direction)
            self.assertEqual(view_units(seen), wanted)
            self.check_thin(seen)
            self.check_lines(seen, wanted)
        self.assertEqual(body, before)

    def check_thin(self, seen):
        us, vs, told = seen
        self.assertEqual(told, tuple(sorted(told)))
        cells = {cell: (plane, label) for cell, plane, label in told}
        self.assertEqual(len(cells), len(told))
        for axis, cuts in enumerate((us, vs)):
            rows = [{cell[1 - axis]: cells[cell] for cell in cells if cell[axis] == k} for k in range(len(cuts) - 1)]
            self.assertTrue(rows[0] and rows[-1])
            self.assertTrue(all(rows[k] != rows[k + 1] for k in range(len(rows) - 1)))

    def check_lines(self, seen, wanted):
        lines = view_lines(seen)
        units = line_units(lines)
        self.assertEqual(len(units), len(set(units)))
        self.assertEqual(set(units), slow_lines(wanted))
        self.assertEqual(lines, sorted(lines, key=lambda one: (one[0], fraction(one[1]), fraction(one[2]))))
        # No line goes on where another one ends.
        ends = [(along, at, high) for along, at, _, high in lines]
        self.assertFalse(set(ends) & {(along, at, low) for along, at, low, _ in lines})
        self.assertEqual(line_length(lines), ratio(len(units)))

    def test_box(self):
        for direction in range(6):
            u, v = next_two(direction // 2)
            self.assertEqual(view(BOX, direction),
                             (BOX[u], BOX[v], (((0, 0), BOX[direction // 2][direction % 2], label_of("f", direction)),)))
        self.check(BOX)
        self.assertEqual(view_lines(view(BOX, 5)),
                         [("u", ratio(0), ratio(0), ratio(2)), ("u", ratio(1), ratio(0), ratio(2)),
                          ("v", ratio(0), ratio(0), ratio(1)), ("v", ratio(2), ratio(0), ratio(1))])
        self.assertEqual(line_length(view_lines(view(BOX, 5))), ratio(6))
        self.assertEqual(line_length([]), ratio(0))

    def test_steps(self):
        seen = view(STEPS, 5)
        self.assertEqual(seen, ((ratio(0), ratio(1), ratio(3)), (ratio(0), ratio(2)),
                                (((0, 0), ratio(2), label_of("g", 5)), ((1, 0), ratio(1), label_of("f", 5)))))
        # From below there is no step, and one label: that of the body that was there first.
        self.assertEqual(view(STEPS, 4)[2], (((0, 0), ratio(0), label_of("f", 4)),))
        self.assertEqual([line for line in view_lines(seen) if line[0] == "v"],
                         [("v", ratio(at), ratio(0), ratio(2)) for at in (0, 1, 3)])
        # From the side of x the high one is seen behind the low one.
        self.assertEqual(view(STEPS, 1)[2], (((0, 0), ratio(3), label_of("f", 1)), ((0, 1), ratio(1), label_of("g", 1))))
        self.check(STEPS)

    def test_several_labels_at_one_plane(self):
        body = joined(block((0, 0, 0), (2, 2, 2)), block((2, 0, 0), (3, 2, 2), "g"))
        seen = view(body, 5)
        self.assertEqual([label for _, _, label in seen[2]], [label_of("f", 5), label_of("g", 5)])
        self.assertIn(("v", ratio(2), ratio(0), ratio(2)), view_lines(seen))
        self.check(body)

    def test_two_planes_with_one_label(self):
        body = grid_body([(0, 0, 0), (1, 0, 0), (1, 0, 1)])
        self.assertEqual(len(view(body, 5)[2]), 2)
        self.assertIn(("v", ratio(1), ratio(0), ratio(1)), view_lines(view(body, 5)))
        self.check(body)

    def test_a_hole_through_it(self):
        ring = grid_body([(i, j, 0) for i in range(3) for j in range(3) if (i, j) != (1, 1)])
        seen = view(ring, 5)
        self.assertEqual(len(seen[2]), 8)
        lines = view_lines(seen)
        self.assertEqual(lines, [("u", ratio(0), ratio(0), ratio(3)), ("u", ratio(1), ratio(1), ratio(2)),
                                 ("u", ratio(2), ratio(1), ratio(2)), ("u", ratio(3), ratio(0), ratio(3)),
                                 ("v", ratio(0), ratio(0), ratio(3)), ("v", ratio(1), ratio(1), ratio(2)),
                                 ("v", ratio(2), ratio(1), ratio(2)), ("v", ratio(3), ratio(0), ratio(3))])
        self.assertEqual(line_length(lines), ratio(16))
        # From the side there is no hole.
        self.assertEqual(len(view(ring, 0)[2]), 1)
        self.check(ring)
        self.check(cut(block((0, 0, 0), (5, 5, 5)), block((1, -1, 2), (2, 9, 4), "g")))

    def test_lines_between_other_things_are_one_line(self):
        # Along x = 1 lie a step between two planes, then one between two labels, then the border.
        body = joined(block((0, 0, 0), (2, 1, 2)), block((0, 0, 0), (1, 1, 3), "g"))
        body = joined(body, block((0, 1, 0), (1, 2, 2), "h"))
        body = joined(body, block((1, 1, 0), (2, 2, 2), "k"))
        body = joined(body, block((0, 2, 0), (1, 3, 2), "h"))
        self.assertIn(("v", ratio(1), ratio(0), ratio(3)), view_lines(view(body, 5)))
        self.check(body)

    def test_stretches_with_a_gap(self):
        body = grid_body([(0, 0, 0), (2, 0, 0), (4, 0, 0)])
        self.assertEqual(view_lines(view(body, 5))[:3],
                         [("u", ratio(0), ratio(k), ratio(k + 1)) for k in (0, 2, 4)])
        self.check(body)

    def test_ends_by_worth(self):
        thirds = moved(grid_body([(0, 0, 0), (2, 0, 0)], cuts=[tuple(ratio(k, 3) for k in range(4))] * 3),
                       (ratio(1, 6), ratio(0), ratio(0)))
        self.assertEqual(view_lines(view(thirds, 5))[:2], [("u", ratio(0), ratio(1, 6), ratio(1, 2)),
                                                           ("u", ratio(0), ratio(5, 6), ratio(7, 6))])

    def test_random_bodies(self):
        chance = random.Random(112)
        for _ in range(60):
            body = random_body(chance, "f", chance.choice([2, 3]))
            if body != EMPTY:
                self.check(body)

    def test_not_there(self):
        for direction in range(6):
            self.assertRaises(NotThere, view, EMPTY, direction)
        for direction in (-1, 6, 99, True, None, "5"):
            self.assertRaises(NotThere, view, BOX, direction)

    def test_answers_are_new(self):
        view_lines(view(BOX, 5)).clear()
        seen_parts(BOX).clear()
        self.assertEqual((len(view_lines(view(BOX, 5))), len(seen_parts(BOX))), (4, 6))


class SeenParts(unittest.TestCase):
    def test_wholly_in_part_and_not_at_all(self):
        # A ledge hangs over a third of the lower step, and over nothing of the rest.
        body = joined(block((0, 0, 0), (3, 1, 1)), block((0, 0, 1), (1, 1, 3), "g"))
        body = joined(body, block((1, 0, 2), (2, 1, 3), "h"))
        told = dict(zip([face[0] for face in faces(body)], seen_parts(body)))
        self.assertEqual(told[label_of("f", 5)], ratio(1, 2))
        self.assertEqual(told[label_of("h", 4)], ratio(0))
        self.assertEqual(told[label_of("h", 5)], ratio(1))
        self.assertEqual(told[label_of("f", 4)], ratio(1))
        self.assertEqual(told[label_of("g", 1)], ratio(1, 1))
        self.assertEqual(seen_parts(BOX), [ratio(1)] * 6)
        self.assertEqual(seen_parts(EMPTY), [])

    def test_random_bodies(self):
        chance = random.Random(113)
        parts = {}
        for _ in range(30):
            body = random_body(chance, "f")
            units = unit_cells(body)
            wanted = []
            for label, direction, places in faces(body):
                axis, way = direction // 2, 1 if direction % 2 == 1 else -1
                xs, ys, zs = [[whole(one) for one in cuts] for cuts in body[:3]]
                mine = [unit for unit in units if units[unit][direction] is not None
                        and any(xs[i] <= unit[0] < xs[i + 1] and ys[j] <= unit[1] < ys[j + 1]
                                and zs[k] <= unit[2] < zs[k + 1] for i, j, k in places)]
                seen = [unit for unit in mine if not any(
                    other[axis] * way > unit[axis] * way and all(other[a] == unit[a] for a in range(3) if a != axis)
                    for other in units)]
                wanted.append(ratio(len(seen), len(mine)))
                parts[wanted[-1]] = True
            self.assertEqual(seen_parts(body), wanted)
        self.assertIn(ratio(0), parts)
        self.assertIn(ratio(1), parts)
        self.assertGreater(len(parts), 3)

    def test_areas_that_differ(self):
        # Of two cells of one face the larger one is covered.
        chance = random.Random(114)
        for _ in range(20):
            body = stretched(chance, random_body(chance, "f"))
            for face, part in zip(faces(body), seen_parts(body)):
                u, v = next_two(face[1] // 2)
                axis, way = face[1] // 2, 1 if face[1] % 2 == 1 else -1
                area = 0
                for place in face[2]:
                    if not any(other[axis] * way > place[axis] * way and (other[u], other[v]) == (place[u], place[v])
                               for other, _ in body[3]):
                        area += ((fraction(body[u][place[u] + 1]) - fraction(body[u][place[u]]))
                                 * (fraction(body[v][place[v] + 1]) - fraction(body[v][place[v]])))
                self.assertEqual(part, as_ratio(area / fraction(face_area(body, face))) if area else ratio(0))


if __name__ == "__main__":
    unittest.main()
