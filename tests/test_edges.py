import copy
import random
import unittest
from fractions import Fraction
from itertools import product

from mitrehouse.bodies import EMPTY, cut, joined, moved, thin
from mitrehouse.edges import edge_length, edges, edges_of_face, longest_edge
from mitrehouse.errors import NotThere
from mitrehouse.faces import faces, marks_of
from mitrehouse.ratios import ratio
from samples import as_ratio, block, fraction, grid_body, label_of, labelled_cells
from test_bodies import random_body
from test_measures import next_two, stretched

BOX = block((0, 0, 0), (2, 1, 1))
KINDS = ("out", "in", "flat", "cross")


def facets_at(body, axis, i, j, k):
    """Returns the pairs of a place and a direction of the facets around the line along an axis at (i, j), layer k."""
    u, v = next_two(axis)
    labels = dict(body[3])
    around = []
    for du, dv in ((-1, -1), (0, -1), (0, 0), (-1, 0)):
        place = [0, 0, 0]
        place[axis], place[u], place[v] = k, i + du, j + dv
        around.append(tuple(place))
    full = [place in labels for place in around]
    # Between the places that follow each other around the line: along u, along v, back along u, back along v.
    ways = [2 * u + 1, 2 * v + 1, 2 * u, 2 * v]
    found = []
    for at, way in enumerate(ways):
        here, there = at, (at + 1) % 4
        if full[here] and not full[there]:
            found.append((around[here], way))
        if full[there] and not full[here]:
            found.append((around[there], way ^ 1))
    return full, found


def slow_edges(body):
    """Returns the edges by going along each line on which cuts of two axes meet."""
    told = faces(body)
    index_of = {(place, face[1]): index for index, face in enumerate(told) for place in face[2]}
    found = []
    for axis in range(3):
        u, v = next_two(axis)
        for i, j in product(range(len(body[u])), range(len(body[v]))):
            last = None
            for k in range(len(body[axis]) - 1):
                full, facets = facets_at(body, axis, i, j, k)
                there = tuple(sorted({index_of[facet] for facet in facets}))
                many = sum(full)
                kind = {1: "out", 3: "in"}.get(many) or ("cross" if full[0] == full[2] else "flat")
                if len(there) < 2:
                    last = None
                elif last == (kind, there):
                    found[-1][3] = body[axis][k + 1]
                else:
                    found.append([axis, (body[u][i], body[v][j]), body[axis][k], body[axis][k + 1], kind, there])
                    last = (kind, there)
    return [tuple(edge) for edge in found]


def length(edge):
    return fraction(edge[3]) - fraction(edge[2])


class Edges(unittest.TestCase):
    def check(self, body):
        before = copy.deepcopy(body)
        found = edges(body)
        self.assertEqual(found, slow_edges(body))
        keys = [(edge[0], fraction(edge[1][0]), fraction(edge[1][1]), fraction(edge[2])) for edge in found]
        self.assertEqual(keys, sorted(keys))
        for kind in KINDS + ("none", ""):
            self.assertEqual(edge_length(body, kind),
                             as_ratio(sum([length(edge) for edge in found if edge[4] == kind], Fraction(0))))
        for index in range(len(faces(body))):
            self.assertEqual(edges_of_face(body, index), [at for at, edge in enumerate(found) if index in edge[5]])
        if found:
            self.assertEqual(longest_edge(body), max(range(len(found)), key=lambda at: (length(found[at]), -at)))
        # Faces are neighbours if an edge has both.
        near = [set() for _ in faces(body)]
        for edge in found:
            for index in edge[5]:
                near[index] |= {faces(body)[other][0] for other in edge[5] if other != index}
        self.assertEqual([tuple(sorted(labels)) for labels in near], marks_of(body))
        self.assertEqual(body, before)
        return found

    def kinds(self, body):
        return sorted({edge[4] for edge in self.check(body)})

    def test_a_box(self):
        found = self.check(BOX)
        self.assertEqual(len(found), 12)
        self.assertEqual(found[0], (0, ((0, 1), (0, 1)), (0, 1), (2, 1), "out", (2, 4)))
        self.assertEqual([edge[0] for edge in found], [0] * 4 + [1] * 4 + [2] * 4)
        # Along y the next axis is z, and then x.
        self.assertEqual([edge[1] for edge in found[4:8]], [(ratio(z), ratio(x)) for z in (0, 1) for x in (0, 2)])
        self.assertEqual((edge_length(BOX, "out"), edge_length(BOX, "in")), (ratio(16), ratio(0)))
        self.assertEqual(longest_edge(BOX), 0)
        self.assertEqual(longest_edge(block((0, 0, 0), (1, 1, 3))), 8)
        self.assertEqual(edges_of_face(BOX, 0), [4, 6, 8, 9])

    def test_steps(self):
        # A step whose sides have one label: the notch has one edge that looks inward.
        body = grid_body([(0, 0, 0), (1, 0, 0), (0, 0, 1)])
        self.assertEqual(self.kinds(body), ["in", "out"])
        self.assertEqual([(edge[0], edge[1]) for edge in edges(body) if edge[4] == "in"], [(1, (ratio(1), ratio(1)))])

    def test_two_boxes_that_share_an_edge(self):
        body = grid_body([(0, 0, 0), (1, 1, 0)])
        crossing = [edge for edge in self.check(body) if edge[4] == "cross"]
        self.assertEqual([(edge[0], edge[1], len(edge[5])) for edge in crossing], [(2, (ratio(1), ratio(1)), 4)])
        self.assertEqual(self.kinds(grid_body([(0, 0, 0), (0, 1, 1)])), ["cross", "out"])
        self.assertEqual(self.kinds(grid_body([(0, 0, 0), (1, 0, 1)])), ["cross", "out"])
        # At a corner alone they share nothing.
        self.assertEqual(self.kinds(grid_body([(0, 0, 0), (1, 1, 1)])), ["out"])
        self.assertEqual(len(edges(grid_body([(0, 0, 0), (1, 1, 1)]))), 24)

    def test_a_hole_through_the_body(self):
        ring = grid_body([(i, j, 0) for i in range(3) for j in range(3) if (i, j) != (1, 1)])
        found = self.check(ring)
        self.assertEqual(len([edge for edge in found if edge[4] == "in"]), 4)
        self.assertEqual(len([edge for edge in found if edge[4] == "out"]), 20)
        self.assertEqual(edge_length(ring, "in"), ratio(4))

    def test_a_notch_and_a_hollow(self):
        whole = block((0, 0, 0), (3, 3, 3))
        hollow = cut(whole, block((1, 1, 1), (2, 2, 2), "g"))
        self.assertEqual(edge_length(hollow, "in"), ratio(12))
        self.assertEqual(edge_length(hollow, "out"), ratio(36))
        self.check(hollow)
        self.check(cut(whole, block((1, 1, 2), (2, 2, 4), "g")))

    def test_flat_edges_between_labels(self):
        body = joined(block((0, 0, 0), (1, 1, 1)), block((1, 0, 0), (2, 1, 1), "g"))
        flat = [edge for edge in self.check(body) if edge[4] == "flat"]
        self.assertEqual([(edge[0], edge[1]) for edge in flat],
                         [(1, (ratio(0), ratio(1))), (1, (ratio(1), ratio(1))),
                          (2, (ratio(1), ratio(0))), (2, (ratio(1), ratio(1)))])
        # With one label there is one face, and no edge in it, though another face may keep the cut.
        cells = labelled_cells([(0, 0, 0), (1, 0, 0)], lambda place, d: label_of("f", d))
        cells[1, 0, 0] = cells[1, 0, 0][:5] + (("g", "top"),)
        cuts = [tuple(ratio(at) for at in range(3))] * 3
        found = self.check(thin(*cuts, cells))
        self.assertEqual([(edge[0], edge[1]) for edge in found if edge[4] == "flat"], [(1, (ratio(1), ratio(1)))])

    def test_one_edge_over_cuts_and_several(self):
        # The cut at x = 1 stays, since the upper side has two labels there; the lower edges go on over it.
        cells = labelled_cells([(0, 0, 0), (1, 0, 0)], lambda place, d: label_of("f", d))
        cells[1, 0, 0] = cells[1, 0, 0][:5] + (("g", "top"),)
        cuts = [tuple(ratio(at) for at in range(3))] * 3
        found = [edge for edge in self.check(thin(*cuts, cells)) if edge[0] == 0]
        self.assertEqual([(edge[1], edge[2], edge[3]) for edge in found],
                         [((ratio(0), ratio(0)), ratio(0), ratio(2)), ((ratio(0), ratio(1)), ratio(0), ratio(1)),
                          ((ratio(0), ratio(1)), ratio(1), ratio(2)), ((ratio(1), ratio(0)), ratio(0), ratio(2)),
                          ((ratio(1), ratio(1)), ratio(0), ratio(1)), ((ratio(1), ratio(1)), ratio(1), ratio(2))])

    def test_other_kinds_with_the_same_line(self):
        # Along z: out, then in, then cross, on one line.
        body = grid_body([(0, 0, 0), (0, 0, 1), (1, 0, 1), (0, 1, 1), (0, 0, 2), (1, 1, 2)])
        line = [(edge[2], edge[4]) for edge in self.check(body) if edge[0] == 2 and edge[1] == (ratio(1), ratio(1))]
        self.assertEqual(line, [(ratio(0), "out"), (ratio(1), "in"), (ratio(2), "cross")])

    def test_stretches_of_the_same_faces_with_a_gap(self):
        # A notch in the middle of an edge: both faces go round it.
        places = [place for place in product(range(3), range(2), range(2)) if place != (1, 0, 1)]
        found = [edge for edge in self.check(grid_body(places)) if edge[0] == 0 and edge[1] == (ratio(0), ratio(2))]
        self.assertEqual([(edge[2], edge[3]) for edge in found], [(ratio(0), ratio(1)), (ratio(2), ratio(3))])
        self.assertEqual(found[0][4:], found[1][4:])

    def test_the_same_faces_on_neighbouring_lines(self):
        # The border of two labels in one plane goes along y, one step aside, and along y again.
        cells = labelled_cells([(i, j, 0) for i in range(3) for j in range(2)], lambda place, d: label_of("f", d))
        for place in ((1, 0, 0), (2, 0, 0), (2, 1, 0)):
            cells[place] = cells[place][:5] + (("g", "top"),)
        cuts = [tuple(ratio(at) for at in range(4))] * 3
        found = [edge for edge in self.check(thin(*cuts, cells)) if edge[4] == "flat"]
        self.assertEqual([edge[:4] for edge in found], [
            (0, (ratio(1), ratio(1)), ratio(1), ratio(2)), (1, (ratio(1), ratio(1)), ratio(0), ratio(1)),
            (1, (ratio(1), ratio(2)), ratio(1), ratio(2))])
        self.assertEqual(len({edge[4:] for edge in found}), 1)

    def test_all_labels_alike(self):
        chance = random.Random(151)
        for _ in range(20):
            places = [place for place in product(range(3), repeat=3) if chance.random() < 0.5]
            cuts = [tuple(ratio(at) for at in range(4))] * 3
            self.check(thin(*cuts, labelled_cells(places, lambda place, d: ("f", "s"))))

    def test_random_bodies(self):
        chance = random.Random(150)
        seen = set()
        for _ in range(40):
            body = stretched(chance, random_body(chance, "f"))
            seen |= {edge[4] for edge in self.check(body)}
        self.assertEqual(seen, set(KINDS))

    def test_asked_in_turn_and_changed(self):
        other = moved(BOX, (ratio(1), ratio(0), ratio(0)))
        for _ in range(3):
            for body in (BOX, other, grid_body([(0, 0, 0), (1, 1, 0)])):
                found = edges(body)
                found.reverse()
                found.append(None)
                edges_of_face(body, 0).append(99)
                self.check(body)

    def test_not_there(self):
        self.assertEqual((edges(EMPTY), edge_length(EMPTY, "out")), ([], ratio(0)))
        self.assertRaises(NotThere, longest_edge, EMPTY)
        self.assertRaises(NotThere, edges_of_face, EMPTY, 0)
        for index in (-1, 6, 99, True, None):
            self.assertRaises(NotThere, edges_of_face, BOX, index)


if __name__ == "__main__":
    unittest.main()
