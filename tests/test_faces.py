import random
import unittest
from itertools import combinations, product

from mitrehouse.bodies import EMPTY, cut, joined, kept, moved, thin
from mitrehouse.errors import NotRight, NotThere
from mitrehouse.faces import (accepts_name, bearers, face_area, face_corner, face_plane, faces, is_face_name,
                              least_name, marks_of, meant, name_paper, twin)
from mitrehouse.ratios import ratio
from samples import beside, block, grid_body, label_of, labelled_cells

BOX = block((0, 0, 0), (2, 1, 1))
# A bar with two cross bars on it: its upper face is in three parts, in one plane and with the same label.
COMB = grid_body([(k, 0, 0) for k in range(5)] + [(1, 0, 1), (3, 0, 1)])


def s(direction, name="f"):
    return label_of(name, direction)


def random_body(chance, name="f", size=3, words="ab"):
    places = [place for place in product(range(size), repeat=3) if chance.random() < 0.5]
    cells = labelled_cells(places, lambda place, d: (name, "s" + chance.choice(words)))
    cuts = tuple(ratio(at) for at in range(size + 1))
    return thin(cuts, cuts, cuts, cells)


def corners_of(place, direction):
    """Returns the set of the four corners of a facet, by the indexes of the cuts."""
    axis = direction // 2
    at = place[axis] + direction % 2
    spans = [(at,) if k == axis else (place[k], place[k] + 1) for k in range(3)]
    return set(product(*spans))


def edges_of_facet(place, direction):
    """Returns the sides of a facet, each as the set of its two ends."""
    corners = corners_of(place, direction)
    return {frozenset(pair) for pair in combinations(corners, 2)
            if sum(one != other for one, other in zip(*pair)) == 1}


def slow_faces(body):
    """Returns the faces of a body, by joining linked facets two by two."""
    facets = [(d, place, label) for place, labels in body[3] for d, label in enumerate(labels) if label is not None]
    group = list(range(len(facets)))
    for k, (d, place, label) in enumerate(facets):
        for n, (e, other, word) in enumerate(facets):
            if d == e and label == word and any(beside(place, way) == other for way in range(6)):
                group = [group[k] if one == group[n] else one for one in group]
    found = {}
    for one, (d, place, label) in zip(group, facets):
        found.setdefault(one, (label, d, []))[2].append(place)
    return sorted([(label, d, tuple(sorted(places))) for label, d, places in found.values()],
                  key=lambda face: (face[1], face[2]))


def slow_marks(found):
    edges = [set().union(*[edges_of_facet(place, d) for place in places]) for _, d, places in found]
    return [tuple(sorted({found[n][0] for n in range(len(found)) if n != k and edges[k] & edges[n]}))
            for k in range(len(found))]


def slow_least_name(found, marks, index):
    for size in range(len(marks[index]) + 1):
        names = [(found[index][0], chosen) for chosen in combinations(marks[index], size)]
        good = [name for name in names
                if [k for k in range(len(found)) if found[k][0] == name[0] and set(name[1]) <= set(marks[k])] == [index]]
        if good:
            return min(good)
    return None


class Faces(unittest.TestCase):
    def test_box(self):
        self.assertEqual(faces(BOX), [(s(d), d, ((0, 0, 0),)) for d in range(6)])
        self.assertEqual(faces(EMPTY), [])
        self.assertEqual(marks_of(EMPTY), [])

    def test_two_faces_in_one_plane_that_are_not_linked(self):
        found = faces(COMB)
        upper = [face for face in found if face[1] == 5]
        self.assertEqual(upper, [(s(5), 5, ((0, 0, 0),)), (s(5), 5, ((1, 0, 1),)), (s(5), 5, ((2, 0, 0),)),
                                 (s(5), 5, ((3, 0, 1),)), (s(5), 5, ((4, 0, 0),))])
        # Two boxes that meet in an edge have no common side, so their upper facets are two faces.
        corner = grid_body([(0, 0, 0), (1, 1, 0)])
        self.assertEqual([face[2] for face in faces(corner) if face[1] == 5], [((0, 0, 0),), ((1, 1, 0),)])

    def test_another_label_makes_another_face(self):
        body = joined(block((0, 0, 0), (1, 1, 1), "f"), block((1, 0, 0), (2, 1, 1), "g"))
        self.assertEqual([face for face in faces(body) if face[1] == 5],
                         [(s(5), 5, ((0, 0, 0),)), (s(5, "g"), 5, ((1, 0, 0),))])

    def test_order(self):
        chance = random.Random(60)
        for _ in range(20):
            found = faces(random_body(chance))
            self.assertEqual(found, sorted(found, key=lambda face: (face[1], face[2])))

    def test_against_slow_ones(self):
        chance = random.Random(61)
        for _ in range(40):
            body = random_body(chance)
            self.assertEqual(faces(body), slow_faces(body))
            self.assertEqual(marks_of(body), slow_marks(slow_faces(body)))

    def test_marks(self):
        self.assertEqual(marks_of(BOX)[5], (s(0), s(1), s(2), s(3)))
        self.assertEqual(marks_of(BOX)[0], (s(2), s(3), s(4), s(5)))
        marks = dict(zip([(face[1], face[2][0]) for face in faces(COMB)], marks_of(COMB)))
        # The upper face in the middle lies between walls that look along and against the x axis.
        self.assertEqual(marks[5, (2, 0, 0)], (s(0), s(1), s(2), s(3)))

    def test_marks_where_boxes_meet_in_an_edge(self):
        corner = grid_body([(0, 0, 0), (1, 1, 0)])
        marks = dict(zip([(face[1], face[2]) for face in faces(corner)], marks_of(corner)))
        # Four facets have the edge in common; among them those of the other box.
        self.assertEqual(marks[1, ((0, 0, 0),)], (s(0), s(2), s(3), s(4), s(5)))

    def test_answers_are_new(self):
        faces(COMB).clear()
        marks_of(COMB).clear()
        bearers(COMB, (s(5), ())).clear()
        self.assertEqual((len(faces(COMB)), len(marks_of(COMB)), len(bearers(COMB, (s(5), ())))), (14, 14, 5))

    def test_area_plane_and_corner(self):
        body = moved(BOX, (ratio(1, 2), ratio(5), ratio(-1)))
        found = faces(body)
        self.assertEqual([face_area(body, face) for face in found],
                         [(1, 1), (1, 1), (2, 1), (2, 1), (2, 1), (2, 1)])
        self.assertEqual([face_plane(body, face) for face in found],
                         [(1, 2), (5, 2), (5, 1), (6, 1), (-1, 1), (0, 1)])
        # The next axes behind x are y and z, behind y z and x, behind z x and y.
        self.assertEqual([face_corner(body, face) for face in found],
                         [((5, 1), (-1, 1)), ((5, 1), (-1, 1)), ((-1, 1), (1, 2)), ((-1, 1), (1, 2)),
                          ((1, 2), (5, 1)), ((1, 2), (5, 1))])

    def test_corner_of_a_face_without_a_box_there(self):
        body = grid_body([(1, 0, 0), (1, 1, 0), (0, 1, 0)])
        upper = [face for face in faces(body) if face[1] == 5][0]
        self.assertEqual(face_corner(body, upper), ((0, 1), (0, 1)))
        self.assertEqual(face_area(body, upper), (3, 1))
        self.assertEqual(face_plane(body, upper), (1, 1))


class Names(unittest.TestCase):
    def test_is_face_name(self):
        for value in ((("f", "a"), ()), (("", ""), ()), (("f", "a"), (("f", "a"), ("f", "b"))),
                      (("f", "a"), (("f", "a"), ("g", ""))), (("f", "a"), (("f", "a"), ("f", "b"), ("g", "")))):
            self.assertIs(is_face_name(value), True)
        for value in (None, 1, "f", (), (("f", "a"),), (("f", "a"), [], ()), (("f", "a"), []), [("f", "a"), ()],
                      (["f", "a"], ()), (("f",), ()), (("f", 1), ()), (("f", "a", "b"), ()), ("fa", ()),
                      (("f", "a"), (("f", "b"), ("f", "a"))), (("f", "a"), (("f", "a"), ("f", "a"))),
                      (("f", "a"), (("f", "a"), ("g", ""), ("f", "b"))), (("f", "a"), ("f", "b")), (("f", "a"), (["f", "b"],)), (("f", "a"), None)):
            self.assertIs(is_face_name(value), False, value)

    def test_a_name_that_stands(self):
        self.assertEqual((bearers(BOX, (s(5), ())), meant(BOX, (s(5), ()))), ([5], 5))
        self.assertEqual(meant(BOX, (s(0), (s(2), s(3), s(4), s(5)))), 0)

    def test_a_name_that_nothing_bears(self):
        for name in ((s(5), (s(4),)), (s(5, "g"), ()), (s(0), (s(0),))):
            self.assertEqual((bearers(BOX, name), meant(BOX, name)), ([], None))
        self.assertEqual((bearers(EMPTY, (s(0), ())), meant(EMPTY, (s(0), ()))), ([], None))

    def test_a_name_that_several_bear(self):
        upper = [k for k, face in enumerate(faces(COMB)) if face[1] == 5]
        self.assertEqual((bearers(COMB, (s(5), ())), meant(COMB, (s(5), ()))), (upper, None))
        # All of them have walls along the x axis, on both sides or on one.
        self.assertEqual(bearers(COMB, (s(5), (s(2), s(3)))), upper)

    def test_twins(self):
        upper = [k for k, face in enumerate(faces(COMB)) if face[1] == 5]
        both = (s(0), s(1), s(2), s(3))
        self.assertEqual([marks_of(COMB)[k] for k in upper],
                         [(s(0), s(2), s(3)), both, both, both, (s(1), s(2), s(3))])
        # Those at the ends have twins with more marks than they have.
        self.assertEqual([twin(COMB, k) for k in upper], [upper[k] for k in (1, 2, 1, 1, 1)])
        self.assertEqual([least_name(COMB, k) for k in upper], [None] * 5)
        self.assertIsNone(twin(BOX, 3))

    def test_a_twin_with_more_marks(self):
        # Two pads with the same label; the first one has all marks of the second one, and one more.
        one = joined(block((0, 0, 0), (1, 1, 1), "f"), block((1, 0, 0), (2, 1, 2), "w"))
        body = joined(one, block((4, 0, 0), (5, 1, 1), "f"))
        found = faces(body)
        first, second = [k for k, face in enumerate(found) if face[0] == s(5)]
        self.assertEqual(marks_of(body)[first], (s(0), s(2), s(3), s(0, "w")))
        self.assertEqual(marks_of(body)[second], (s(0), s(1), s(2), s(3)))
        self.assertEqual(least_name(body, first), (s(5), (s(0, "w"),)))
        self.assertEqual(least_name(body, second), (s(5), (s(1),)))
        self.assertEqual((twin(body, first), twin(body, second)), (None, None))
        lower = [k for k, face in enumerate(found) if face[0] == s(2)]
        self.assertEqual([twin(body, k) for k in lower], [None, None])

    def test_the_least_among_several(self):
        # Of two pads the one has two marks that the other one lacks: the lesser one of them is taken.
        one = joined(block((0, 0, 0), (1, 1, 1), "f"), block((1, 0, 0), (2, 1, 2), "w"))
        one = joined(one, block((0, 1, 0), (1, 2, 2), "v"))
        body = joined(one, block((4, 0, 0), (5, 1, 1), "f"))
        first = [k for k, face in enumerate(faces(body)) if face[0] == s(5)][0]
        self.assertEqual(marks_of(body)[first], (s(0), s(2), s(2, "v"), s(0, "w")))
        self.assertEqual(least_name(body, first), (s(5), (s(2, "v"),)))

    def test_against_slow_ones(self):
        chance = random.Random(63)
        sizes = {}
        for _ in range(60):
            body = random_body(chance, size=chance.choice([2, 2, 3]), words="abcdefgh")
            found, marks = slow_faces(body), slow_marks(slow_faces(body))
            for index in range(len(found)):
                name = slow_least_name(found, marks, index)
                self.assertEqual(least_name(body, index), name)
                others = [k for k in range(len(found)) if k != index and found[k][0] == found[index][0]
                          and set(marks[index]) <= set(marks[k])]
                self.assertEqual(twin(body, index), others[0] if others else None)
                self.assertEqual(name is None, bool(others))
                if name is not None:
                    sizes[len(name[1])] = True
                    self.assertEqual(meant(body, name), index)
                    self.assertTrue(accepts_name(body, index, name, name_paper(body, index, name)))
        self.assertEqual(sorted(sizes)[:3], [0, 1, 2])


class Papers(unittest.TestCase):
    def setUp(self):
        one = joined(block((0, 0, 0), (1, 1, 1), "f"), block((1, 0, 0), (2, 1, 2), "w"))
        one = joined(one, block((0, 1, 0), (1, 2, 2), "v"))
        two = joined(one, block((4, 0, 0), (5, 1, 1), "f"))
        self.body = joined(two, block((7, 0, 0), (8, 1, 1), "f"))
        self.like = [k for k, face in enumerate(faces(self.body)) if face[0] == s(5)]
        self.index = self.like[0]
        self.name = (s(5), (s(0), s(2, "v"), s(0, "w")))
        self.paper = [(self.like[1], s(2, "v")), (self.like[2], s(2, "v"))]

    def accepted(self, paper):
        return accepts_name(self.body, self.index, self.name, paper)

    def test_its_own(self):
        # The least mark that is lacking is told.
        self.assertEqual(name_paper(self.body, self.index, self.name), self.paper)
        self.assertIs(self.accepted(self.paper), True)
        self.assertEqual(name_paper(BOX, 5, (s(5), ())), [])
        self.assertIs(accepts_name(BOX, 5, (s(5), ()), []), True)

    def test_another_mark(self):
        self.assertIs(self.accepted([self.paper[0], (self.like[2], s(0, "w"))]), True)
        self.assertIs(self.accepted([self.paper[0], (self.like[2], s(0))]), False)
        self.assertIs(self.accepted([self.paper[0], (self.like[2], s(1, "w"))]), False)
        self.assertIs(self.accepted([self.paper[0], (self.like[2], s(5))]), False)

    def test_left_out_doubled_exchanged(self):
        one, other = self.paper
        for paper in ([], [one], [other], [one, one, other], [one, other, other], [other, one],
                      [one, other, (self.index, s(2, "v"))], [(self.index, s(2, "v")), one, other]):
            self.assertIs(self.accepted(paper), False)

    def test_another_index(self):
        for index in (self.index, self.like[1], 0, -1, 99):
            self.assertIs(self.accepted([self.paper[0], (index, s(2, "v"))]), False)

    def test_another_face_or_name(self):
        self.assertIs(accepts_name(self.body, self.like[1], self.name, self.paper), False)
        self.assertIs(accepts_name(self.body, 0, self.name, self.paper), False)
        self.assertIs(accepts_name(self.body, self.index, (s(5), (s(1),)), self.paper), False)
        self.assertIs(accepts_name(self.body, self.index, (s(4), ()), self.paper), False)
        # The paper would do, but the face does not bear the name.
        self.assertIs(accepts_name(self.body, self.index, (s(4), self.name[1]), self.paper), False)
        self.assertIs(accepts_name(self.body, self.index, (s(5), self.name[1] + (("z", ""),)), self.paper), False)
        self.assertIs(accepts_name(self.body, self.index, (s(5), (s(2, "v"), s(0, "w"))), self.paper), True)

    def test_a_face_that_has_a_twin_has_no_paper(self):
        marks = marks_of(self.body)
        name = (s(5), marks[self.like[1]])
        self.assertEqual(bearers(self.body, name), self.like[1:])
        for mark in marks[self.like[1]]:
            paper = [(self.index, mark), (self.like[2], mark)]
            self.assertIs(accepts_name(self.body, self.like[1], name, paper), False)

    def test_not_right(self):
        for index, name in ((self.index, (s(5), ())), (self.like[1], self.name), (0, (s(5), (s(5),)))):
            with self.assertRaises(NotRight):
                name_paper(self.body, index, name)

    def test_not_there_goes_first(self):
        for index in (-1, len(faces(self.body)), 1000):
            for ask in (lambda: least_name(self.body, index), lambda: twin(self.body, index),
                        lambda: name_paper(self.body, index, (s(0), (s(5, "z"),))),
                        lambda: accepts_name(self.body, index, self.name, [])):
                self.assertRaises(NotThere, ask)
        self.assertRaises(NotThere, least_name, EMPTY, 0)
        self.assertRaises(NotThere, least_name, BOX, True)

    def test_answers_are_new(self):
        name_paper(self.body, self.index, self.name).clear()
        self.assertEqual(name_paper(self.body, self.index, self.name), self.paper)


class Combined(unittest.TestCase):
    def planes(self, body):
        return {(face[0], face[1] // 2, face_plane(body, face)) for face in faces(body)}

    def test_labels_come_from_faces_in_the_same_plane(self):
        chance = random.Random(65)
        for _ in range(30):
            body, other = random_body(chance, "f"), random_body(chance, "g")
            other = moved(other, tuple(ratio(chance.randint(-1, 1)) for _ in range(3)))
            known = self.planes(body) | self.planes(other)
            for deed in (joined, cut, kept):
                self.assertLessEqual(self.planes(deed(body, other)), known)


if __name__ == "__main__":
    unittest.main()
