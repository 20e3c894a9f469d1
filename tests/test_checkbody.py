import copy
import random
import unittest

from mitrehouse.apart import accepts_held, accepts_order, taken_apart
from mitrehouse.assemblies import overlaps
from mitrehouse.bodies import EMPTY, cut, is_body, joined, moved, turned
from mitrehouse.checkbody import takes_body, takes_held, takes_name, takes_order, takes_standing
from mitrehouse.errors import NotRight
from mitrehouse.faces import accepts_name, faces, least_name, marks_of, name_paper
from mitrehouse.ratios import ratio
from mitrehouse.standing import accepts_standing, standing_paper
from changes import changed
from samples import as_ratio, block, fraction, grid_body
from test_apart import CASE, CHAIN, scattered
from test_bodies import random_body, triple
from test_crowds import EIGHT
from test_naming import BODY as MARKED
from test_measures import stretched
from test_standing import FALLS, STANDS, TIPS

BOX = block((0, 0, 0), (2, 1, 1))
HALVES = joined(block((0, 0, 0), (1, 1, 1)), block((1, 0, 0), (2, 1, 1), "g"))


def booleans(value):
    """Returns a value with True for 1 and False for 0 in it, which is equal to it."""
    if isinstance(value, tuple):
        return tuple(booleans(one) for one in value)
    return bool(value) if value in (0, 1) and not isinstance(value, str) else value


def with_true(body):
    return booleans(body)


def with_true_cuts(body):
    return (booleans(body[0]),) + body[1:]


def with_true_places(body):
    return body[:3] + (booleans(body[3]),)


def with_a_cut(body, axis, at):
    """Returns a body whose layer along an axis is divided by one more cut, which is not needed."""
    low, high = fraction(body[axis][at]), fraction(body[axis][at + 1])
    cuts = body[axis][:at + 1] + (as_ratio((low + high) / 2),) + body[axis][at + 1:]
    cells = {}
    for place, labels in body[3]:
        ends = (labels[2 * axis], labels[2 * axis + 1])
        parts = [(place[axis], (ends[0], None)), (place[axis] + 1, (None, ends[1]))]
        if place[axis] != at:
            parts = [(place[axis] + (place[axis] > at), ends)]
        for index, pair in parts:
            cells[place[:axis] + (index,) + place[axis + 1:]] = labels[:2 * axis] + pair + labels[2 * axis + 2:]
    return body[:axis] + (cuts,) + body[axis + 1:3] + (tuple(sorted(cells.items())),)


class Bodies(unittest.TestCase):
    def check(self, value):
        self.assertIs(takes_body(value), is_body(value), value)
        return takes_body(value)

    def test_bodies(self):
        for body in (EMPTY, BOX, HALVES, MARKED, turned(MARKED, 1), cut(BOX, HALVES), grid_body([(0, 0, 0), (2, 1, 0), (1, 1, 1)])):
            self.assertTrue(self.check(body))

    def test_random_bodies_and_changed_ones(self):
        chance = random.Random(51)
        taken = 0
        for _ in range(25):
            body = stretched(chance, random_body(chance, "f", 2))
            self.assertTrue(self.check(body))
            for wrong in changed(body, tuples=True):
                # A place or a label more or less, another cut or number: most of it is no body, some is another one.
                taken += self.check(wrong)
        self.assertGreater(taken, 10)

    def test_bodies_that_are_not_thin(self):
        xs, ys, zs, cells = BOX
        half = (ratio(0), ratio(1), ratio(2))
        labels = cells[0][1]
        split = (half, ys, zs, (((0, 0, 0), labels[:1] + (None,) + labels[2:]), ((1, 0, 0), (None,) + labels[1:])))
        self.assertFalse(self.check(split))
        self.assertFalse(self.check((xs + (ratio(5),), ys, zs, cells)))
        self.assertFalse(self.check(((ratio(-1),) + xs, ys, zs, (((1, 0, 0), labels),))))
        # With another label on one of them, the cut is needed.
        other = (half, ys, zs, (split[3][0], ((1, 0, 0), (None, labels[1], ("g", "s2")) + labels[3:])))
        self.assertTrue(self.check(other))
        self.assertFalse(self.check((half, ys, zs, (split[3][0], ((1, 0, 0), (None, ("g", "s1")) + labels[2:])))))

    def test_needless_cuts_along_each_axis(self):
        chance = random.Random(52)
        for _ in range(30):
            body = random_body(chance, "f", 2)
            if body == EMPTY:
                continue
            for axis in range(3):
                at = chance.randrange(len(body[axis]) - 1)
                self.assertFalse(self.check(with_a_cut(body, axis, at)))

    def test_a_cut_that_one_label_needs(self):
        for axis in range(3):
            split = with_a_cut(BOX, axis, 0)
            for direction in range(6):
                (first, labels), (second, others) = split[3]
                put = others[:direction] + (("g", "s"),) + others[direction + 1:]
                wanted = direction // 2 != axis
                self.assertIs(self.check(split[:3] + (((first, labels), (second, put)),)), wanted)

    def test_what_is_near_a_body(self):
        xs, ys, zs, ((place, labels),) = BOX
        for value in (None, (), [], "body", 5, (xs, ys, zs), (xs, ys, zs, (), ()), list(BOX), (list(xs), ys, zs, ((place, labels),)),
                      (xs, ys, zs, [(place, labels)]), (xs, ys, zs, ([place, labels],)), (xs, ys, zs, ((list(place), labels),)),
                      (xs, ys, zs, ((place, list(labels)),)), (xs, ys, zs, ((place, labels[:5]),)), (xs, ys, zs, ((place,),)),
                      (xs, ys, zs, ((place, labels), (place, labels))), (xs, ys, zs, (((0, 0), labels),)), (xs, ys, zs, ()),
                      (xs, ys, zs, (((0, 0, 1), labels),)), (xs, ys, zs, (((0, 0, -1), labels),)), (xs, ys, zs, ((place, (None,) * 6),)),
                      (xs, ys, zs, (((0, 0, "0"), labels),)), (xs, ys, zs, ((place, (("f",),) + labels[1:]),)),
                      (xs, ys, zs, ((place, ((1, "s"),) + labels[1:]),)), (xs, ys, zs, ((place, ((None, "s"),) + labels[1:]),)),
                      (xs, ys, zs, ((place, (["f", "s"],) + labels[1:]),)), (xs, ys, zs, ((place, (("f", 1),) + labels[1:]),)),
                      (xs, ys, zs, ((place, ("fs",) + labels[1:]),)), ((xs[1], xs[0]), ys, zs, ((place, labels),)),
                      ((xs[0], xs[0]), ys, zs, ((place, labels),)), (((0, 1), (4, 2)), ys, zs, ((place, labels),)),
                      ((0, 2), ys, zs, ((place, labels),)), (xs, ys, (zs[0],), ((place, labels),)), ((), (), (), None), ((), (), ()),
                      ((ratio(0),), (), (), ()), with_true(BOX), (xs, ys, zs, ((place, labels), None))):
            self.assertFalse(self.check(value))

    def test_large_ones(self):
        body = grid_body([(k % 7, k % 5, k % 9) for k in range(300)])
        self.assertTrue(self.check(body))
        self.assertFalse(self.check(body[:3] + (body[3][1:],)))


def others_of(body, index, name):
    """Returns the paper of a name, with the faces in the place of their indexes."""
    return [(faces(body)[other], mark) for other, mark in name_paper(body, index, name)]


class Names(unittest.TestCase):
    def check(self, body):
        """Checks all names of a body, and each with one thing changed, against the words of the document."""
        told, marks = faces(body), marks_of(body)
        many = 0
        for index, face in enumerate(told):
            name = least_name(body, index)
            if name is None:
                continue
            others = others_of(body, index, name)
            self.assertIs(takes_name(body, face, name, others), True)
            for wrong in changed(others):
                self.assertIs(takes_name(body, face, name, wrong), self.slow(body, index, name, wrong))
            for wrong in changed(name, tuples=True):
                self.assertIs(takes_name(body, face, wrong, others), self.slow(body, index, wrong, others), wrong)
            for wrong in changed(face):
                if wrong not in told:
                    self.assertIs(takes_name(body, wrong, name, others), False)
            for other, one in enumerate(told):
                if other != index:
                    self.assertIs(takes_name(body, one, name, others), False)
            full = (face[0], marks[index])
            wide = [(told[other], mark) for other, mark in name_paper(body, index, full)]
            self.assertIs(takes_name(body, face, full, wide), True)
            many += len(others)
        return many

    def slow(self, body, index, name, others):
        told, marks = faces(body), marks_of(body)
        if not isinstance(name, tuple) or len(name) != 2 or not isinstance(name[0], tuple) or not isinstance(name[1], tuple):
            return False
        if name[0] != told[index][0] or list(name[1]) != sorted(set(name[1])) or not set(name[1]) <= set(marks[index]):
            return False
        rivals = [at for at in range(len(told)) if told[at][0] == name[0] and at != index]
        return [one for one, _ in others] == [told[at] for at in rivals] and all(
            mark in name[1] and mark not in marks[at] for at, (_, mark) in zip(rivals, others))

    def test_a_box(self):
        face = faces(BOX)[5]
        self.assertIs(takes_name(BOX, face, (face[0], ()), []), True)
        self.assertIs(takes_name(BOX, face, (face[0], (("f", "s0"),)), []), True)
        self.assertIs(takes_name(BOX, face, (face[0], (("f", "s4"),)), []), False)
        self.assertIs(takes_name(BOX, face, (face[0], ()), [(faces(BOX)[4], ("f", "s0"))]), False)
        self.assertEqual(self.check(BOX), 0)

    def test_bodies_with_several_faces_of_a_label(self):
        self.check(MARKED)
        chance = random.Random(64)
        many = 0
        for _ in range(12):
            many += self.check(random_body(chance, "f"))
        self.assertGreater(many, 100)

    def test_what_accepts_name_tells(self):
        body = random_body(random.Random(7), "f")
        told = faces(body)
        for index, face in enumerate(told):
            for label in sorted({one[0] for one in told}):
                for marks in [()] + [(one,) for one in marks_of(body)[index]]:
                    name = (label, marks)
                    paper = [(at, mark) for at, other in enumerate(told) if other[0] == label and at != index for mark in marks[:1]]
                    self.assertIs(takes_name(body, face, name, [(told[at], mark) for at, mark in paper]),
                                  accepts_name(body, index, name, paper))

    def test_marks_that_do_not_ascend(self):
        body = random_body(random.Random(9), "f")
        told = faces(body)
        wide = [index for index in range(len(told)) if len(marks_of(body)[index]) > 2 and least_name(body, index) is not None]
        for index in wide:
            name = (told[index][0], marks_of(body)[index])
            others = others_of(body, index, name)
            self.assertIs(takes_name(body, told[index], name, others), True)
            for wrong in (name[1][::-1], name[1] + name[1][-1:], list(name[1])):
                self.assertIs(takes_name(body, told[index], (name[0], wrong), others), False)
        self.assertTrue(wide)

    def test_no_body(self):
        face = faces(BOX)[5]
        self.assertIs(takes_name(BOX, face, (face[0], ()), []), True)
        for wrong in (None, (), BOX[:3], with_true(BOX), with_true_cuts(BOX), with_true_places(BOX), list(BOX),
                      BOX[:3] + ((BOX[3][0], BOX[3][0]),)):
            self.assertEqual(with_true_cuts(BOX), BOX)
            self.assertRaises(NotRight, takes_name, wrong, face, (face[0], ()), [])
        self.assertIs(takes_name(EMPTY, face, (face[0], ()), []), False)

    def test_several_bodies_in_turn(self):
        bodies = [moved(MARKED, triple(k, 0, 0)) for k in range(10)]
        for _ in range(2):
            for body in bodies:
                for index, face in enumerate(faces(body)):
                    name = least_name(body, index)
                    if name is not None:
                        self.assertIs(takes_name(body, face, name, others_of(body, index, name)), True)


class Apart(unittest.TestCase):
    def check(self, bodies):
        word, told = taken_apart(bodies)
        before = copy.deepcopy((bodies, told))
        self.assertIs(takes_order(bodies, told if word == "apart" else []), word == "apart")
        self.assertIs(takes_held(bodies, told if word == "held" else []), word == "held")
        for wrong in changed(told):
            if word == "apart":
                self.assertIs(takes_order(bodies, wrong), accepts_order(bodies, wrong), wrong)
            else:
                self.assertIs(takes_held(bodies, wrong), accepts_held(bodies, wrong), wrong)
        names = sorted(bodies)
        for steps in ([], [(names[0], 0)], [(name, 5) for name in names], [(name, 9) for name in names], [(names[0], True)] * 2):
            self.assertIs(takes_order(bodies, steps), accepts_order(bodies, steps))
        self.assertEqual((bodies, told), before)
        return word

    def test_cases(self):
        # The core is held as long as both lids are there; two links of a chain hold each other for ever.
        self.assertEqual((self.check(CASE), self.check(CHAIN)), ("apart", "held"))
        self.assertEqual(self.check({"a": BOX, "b": moved(BOX, triple(0, 1, 0))}), "apart")
        self.assertEqual(self.check({"a": BOX}), "apart")

    def test_eight_bodies_that_hold_each_other(self):
        self.assertEqual(self.check(EIGHT), "held")
        rows = taken_apart(EIGHT)[1]
        wrong = [(name, d, other) for name, _ in rows for d in range(6) for other in sorted(EIGHT)]
        taken = 0
        for name, d, other in wrong:
            telling = [(one, names[:d] + [other] + names[d + 1:] if one == name else names) for one, names in rows]
            self.assertIs(takes_held(EIGHT, telling), accepts_held(EIGHT, telling))
            taken += takes_held(EIGHT, telling)
        self.assertTrue(50 < taken < len(wrong) - 50)

    def test_a_direction_that_is_true(self):
        self.assertIs(takes_order({"a": BOX}, [("a", 1)]), True)
        for direction in (True, 6, -1, "1", None):
            self.assertIs(takes_order({"a": BOX}, [("a", direction)]), False)

    def test_random_bodies(self):
        chance = random.Random(106)
        words = {self.check(scattered(chance, chance.randint(2, 5))) for _ in range(40)}
        self.assertIn("apart", words)

    def test_bodies_that_overlap(self):
        pair = {"a": BOX, "b": moved(BOX, triple(1, 0, 0))}
        for _ in range(2):
            self.assertIs(takes_order(pair, [("a", 0), ("b", 0)]), False)
            self.assertIs(takes_order(pair, []), False)
            self.assertIs(takes_held(pair, [("a", ["b"] * 6), ("b", ["a"] * 6)]), False)
        self.assertIs(takes_held({"a": BOX, "b": BOX}, [("a", ["b"] * 6), ("b", ["a"] * 6)]), False)
        self.assertIs(takes_order({**CASE, "z": BOX}, taken_apart(CASE)[1] + [("z", 0)]), False)

    def test_many_boxes(self):
        # The cuts of both make more than 20000 boxes: this is no reason to refuse them here.
        one = grid_body([(k, k, k) for k in range(14)])
        other = moved(one, triple("1/2", "1/2", 40))
        self.assertIs(takes_order({"a": one, "b": other}, [("a", 4), ("b", 0)]), True)
        self.assertIs(takes_order({"a": one, "b": other}, [("a", 5), ("b", 0)]), False)

    def test_no_body(self):
        pair = {"a": BOX, "b": moved(BOX, triple(0, 1, 0))}
        steps = [("a", 0), ("b", 0)]
        self.assertIs(takes_order(pair, steps), True)
        for wrong in (None, (), BOX[:3], with_true(BOX), with_true_cuts(BOX), with_true_places(BOX), list(BOX),
                      (BOX[0], BOX[1], BOX[2], BOX[3] * 2)):
            for bodies in ({**pair, "a": wrong}, {**pair, "b": wrong}, {**pair, "c": wrong}):
                self.assertRaises(NotRight, takes_order, bodies, steps)
                self.assertRaises(NotRight, takes_held, bodies, [])
        # No body ahead of bodies that overlap.
        self.assertRaises(NotRight, takes_order, {"a": BOX, "b": BOX, "c": None}, steps)

    def test_against_slow_looks_at_sets_of_bodies_in_turn(self):
        chance = random.Random(107)
        sets = [scattered(chance, 3) for _ in range(12)] + [CASE, CHAIN]
        for _ in range(3):
            for bodies in sets:
                word, told = taken_apart(bodies)
                self.assertIs((takes_order if word == "apart" else takes_held)(copy.deepcopy(bodies), told), True)
                self.assertEqual(overlaps(bodies), [])


class Standing(unittest.TestCase):
    def check(self, body):
        paper = standing_paper(body)
        self.assertIs(takes_standing(body, paper), True)
        for wrong in changed(paper):
            self.assertIs(takes_standing(body, wrong), accepts_standing(body, wrong), wrong)
        return paper[0]

    def test_each_kind(self):
        self.assertEqual([self.check(body) for body in (STANDS, TIPS, FALLS)], ["held", "edge", "falls"])

    def test_papers_of_one_body_for_another_one(self):
        for body in (STANDS, TIPS, FALLS, BOX):
            for other in (STANDS, TIPS, FALLS, BOX):
                self.assertIs(takes_standing(body, standing_paper(other)), accepts_standing(body, standing_paper(other)))

    def test_held_is_right_for_a_body_that_tips(self):
        _, weights, line = standing_paper(TIPS)
        self.assertIs(takes_standing(TIPS, ("held", weights)), True)
        self.assertIs(takes_standing(TIPS, ("falls", line)), False)
        self.assertIs(takes_standing(TIPS, ("edge", weights, (ratio(0), ratio(0), ratio(0)))), False)
        self.assertIs(takes_standing(TIPS, ("edge", weights, tuple(ratio(-one[0], one[1]) for one in line))), False)
        self.assertIs(takes_standing(TIPS, ("tips", weights, line)), False)

    def test_weights(self):
        x, y = (ratio(0), ratio(0)), (ratio(2), ratio(1))
        half = ratio(1, 2)
        self.assertIs(takes_standing(BOX, ("held", [(x, half), (y, half)])), True)
        self.assertIs(takes_standing(BOX, ("held", [(x, ratio(1, 4)), (x, ratio(1, 4)), (y, half)])), True)
        for weights in ([], [(x, half)], [(x, half), (y, ratio(1, 3))], [(x, ratio(1)), (y, ratio(1))], [(x, half), ((ratio(1), ratio(1)), half)],
                        [(x, half), (y, (2, 4))], [(x, half), (y, half), (x, ratio(-1)), (x, ratio(1))]):
            self.assertIs(takes_standing(BOX, ("held", weights)), False)

    def test_random_bodies(self):
        chance = random.Random(132)
        words = set()
        for _ in range(60):
            body = stretched(chance, random_body(chance, "f", 2))
            if body != EMPTY:
                words.add(self.check(body))
        self.assertLessEqual({"held", "falls"}, words)

    def test_no_body(self):
        paper = standing_paper(BOX)
        for wrong in (EMPTY, None, (), with_true(BOX), BOX[:3]):
            self.assertRaises(NotRight, takes_standing, wrong, paper)
            self.assertRaises(NotRight, takes_standing, wrong, ("held", []))


if __name__ == "__main__":
    unittest.main()
