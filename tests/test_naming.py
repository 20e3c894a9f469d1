"""All faces of one body that five features make: their names, twins, meanings and fates, face by face."""

import unittest
from unittest import mock

from mitrehouse import faces as module
from mitrehouse.bodies import EMPTY, moved, volume
from mitrehouse.faces import (accepts_name, bearers, faces, least_name, marks_of, meant, name_paper, twin)
from mitrehouse.histories import built
from mitrehouse.lineage import fate, fates, same_faces
from mitrehouse.ratios import ratio
from samples import box_sketch, feature, num
from test_faces import slow_faces, slow_least_name, slow_marks

FEATURES = (
    feature("f", "join", ("base", 2, num(0)), box_sketch(num(4), num(3), num(0), num(0)), low=num(-2), high=num(1)),
    feature("g", "join", ("base", 0, num(1)), box_sketch(num(3, 2), num(5), num(1, 2), num(-1)), low=num(-1),
            high=num(3, 2)),
    feature("h", "cut", ("base", 1, num(-1)), box_sketch(num(2), num(5, 2), num(1), num(0)), low=num(0), high=num(4)),
    feature("k", "join", ("base", 2, num(1)), box_sketch(num(2), num(2), num(-1), num(1, 2)), low=num(-1), high=num(2)),
    feature("m", "cut", ("base", 2, num(0)), box_sketch(num(1), num(1, 2), num(2), num(1)), low=num(-2), high=num(2)),
)
BODY = built(((), FEATURES))
# The body with one feature less, with two exchanged, and with the last one put at another place.
LESS = [built(((), FEATURES[:k] + FEATURES[k + 1:])) for k in range(5)]
OTHERS = LESS + [built(((), FEATURES[:1] + (FEATURES[2], FEATURES[1]) + FEATURES[3:])),
                 built(((), FEATURES[:4] + (FEATURES[4][:6] + (num(-1), num(1)),))), EMPTY]


def copied(body):
    """Returns a body that is equal to a body and shares no tuple with it."""
    xs, ys, zs, cells = body
    return (*[tuple([(above, below) for above, below in cuts]) for cuts in (xs, ys, zs)],
            tuple([(tuple(list(place)), tuple(list(labels))) for place, labels in cells]))


class Told:
    """What the words of the document tell of the faces of a body, worked out face by face."""

    def __init__(self, body):
        self.faces = slow_faces(body)
        self.marks = slow_marks(self.faces)
        self.names = [slow_least_name(self.faces, self.marks, k) for k in range(len(self.faces))]

    def bearers(self, name):
        return [k for k, face in enumerate(self.faces) if face[0] == name[0] and set(name[1]) <= set(self.marks[k])]

    def meant(self, name):
        found = self.bearers(name)
        return found[0] if len(found) == 1 else None

    def twin(self, index):
        found = [k for k in self.bearers((self.faces[index][0], self.marks[index])) if k != index]
        return found[0] if found else None

    def fate(self, index, other):
        if self.names[index] is None:
            return ("twin",)
        found = other.bearers(self.names[index])
        return ("means", found[0]) if len(found) == 1 else ("many",) if found else ("lost",)

    def same_faces(self, other):
        fates_there = [self.fate(k, other) for k in range(len(self.faces))]
        return [(k, told[1]) for k, told in enumerate(fates_there)
                if told[0] == "means" and other.fate(told[1], self) == ("means", k)]


class Naming(unittest.TestCase):
    @classmethod
    def setUpClass(cls):
        cls.told = Told(BODY)
        cls.others = [Told(other) for other in OTHERS]

    def check_body(self, body, told):
        self.assertEqual(faces(body), told.faces)
        self.assertEqual(marks_of(body), told.marks)
        for index in range(len(told.faces)):
            name = told.names[index]
            self.assertEqual(least_name(body, index), name)
            self.assertEqual(twin(body, index), told.twin(index))
            if name is not None:
                self.assertEqual((meant(body, name), bearers(body, name)), (index, [index]))
                self.assertIs(accepts_name(body, index, name, name_paper(body, index, name)), True)

    def check_pair(self, body, told, other, other_told):
        wanted = [told.fate(index, other_told) for index in range(len(told.faces))]
        self.assertEqual([fate(body, index, other) for index in range(len(told.faces))], wanted)
        self.assertEqual(fates(body, other), wanted)
        self.assertEqual(same_faces(body, other), told.same_faces(other_told))
        for name in told.names:
            if name is not None:
                self.assertEqual(bearers(other, name), other_told.bearers(name))
                self.assertEqual(meant(other, name), other_told.meant(name))

    def test_the_body(self):
        self.assertEqual((len(faces(BODY)), len(BODY[3])), (23, 77))
        self.assertEqual(volume(BODY)[0] > 0, True)
        words = {told[0] for k in range(23) for other in self.others for told in [self.told.fate(k, other)]}
        self.assertEqual(words, {"means", "lost", "many"})

    def test_every_face_of_the_body(self):
        self.check_body(BODY, self.told)

    def test_every_face_in_other_bodies_and_back(self):
        for other, told in zip(OTHERS, self.others):
            self.check_body(other, told)
            self.check_pair(BODY, self.told, other, told)
            self.check_pair(other, told, BODY, self.told)

    def test_many_bodies_in_turn(self):
        # More bodies than are kept, each asked for one face at a time, again and again.
        bodies = [BODY] + OTHERS[:-1] + [moved(BODY, (ratio(k), ratio(0), ratio(0))) for k in (1, 2, 3)]
        tolds = [self.told] + self.others[:-1] + [self.told] * 3
        for index in range(23):
            for body, told in zip(bodies, tolds):
                if index < len(told.faces):
                    self.assertEqual((least_name(body, index), twin(body, index)), (told.names[index], told.twin(index)))
                    self.assertEqual(fate(body, index, BODY), told.fate(index, self.told))

    def test_equal_bodies_that_share_nothing(self):
        for _ in range(3):
            self.check_body(copied(BODY), self.told)
            self.check_pair(copied(BODY), self.told, copied(OTHERS[0]), self.others[0])

    def test_bodies_with_the_same_places_and_other_labels(self):
        xs, ys, zs, cells = BODY
        renamed = (xs, ys, zs, tuple([(place, tuple([label and ("z", label[1]) for label in labels]))
                                      for place, labels in cells]))
        self.check_body(BODY, self.told)
        self.check_body(renamed, Told(renamed))
        self.check_body(BODY, self.told)

    def test_asked_again_behind_changes_of_what_was_handed_out(self):
        name = self.told.names[0]
        for _ in range(3):
            for answer in (faces(BODY), marks_of(BODY), bearers(BODY, name), fates(BODY, OTHERS[0]),
                           same_faces(BODY, OTHERS[0]), name_paper(BODY, 0, name)):
                answer.append(("changed",))
                answer.reverse()
                del answer[1:]
            self.check_body(BODY, self.told)
            self.check_pair(BODY, self.told, OTHERS[0], self.others[0])

    def test_the_faces_of_a_body_are_made_once(self):
        body, other = moved(BODY, (ratio(77), ratio(0), ratio(0))), moved(BODY, (ratio(78), ratio(0), ratio(0)))
        with mock.patch.object(module, "all_faces", wraps=module.all_faces) as made, \
                mock.patch.object(module, "neighbours_among", wraps=module.neighbours_among) as marked:
            for index in range(23):
                self.assertEqual(least_name(body, index), self.told.names[index])
                self.assertEqual(twin(body, index), self.told.twin(index))
                self.assertEqual(meant(other, self.told.names[index]), index)
                self.assertEqual(fate(body, index, other), ("means", index))
            self.assertEqual(len(same_faces(other, body)), 23)
            self.assertEqual((len(faces(body)), len(marks_of(other))), (23, 23))
        self.assertEqual((made.call_count, marked.call_count), (2, 2))


if __name__ == "__main__":
    unittest.main()
