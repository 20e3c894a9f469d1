"""What the document tells as facts over the whole program: papers, names, bodies, merges, orders and slices."""

import random
import unittest
from itertools import combinations

from mitrehouse.apart import blockers, taken_apart
from mitrehouse.assemblies import overlaps
from mitrehouse.bodies import EMPTY, is_body, moved
from mitrehouse.checkbody import takes_body, takes_held, takes_name, takes_order, takes_standing
from mitrehouse.checkrows import takes_clash, takes_frame, takes_values
from mitrehouse.checksketch import takes_drag, takes_shape, takes_told
from mitrehouse.desk import Desk, answers_to
from mitrehouse.drags import drag_paper, dragged
from mitrehouse.drawings import Drawing
from mitrehouse.errors import NotThere, Stops
from mitrehouse.faces import faces, least_name, marks_of, meant, name_paper, twin
from mitrehouse.histories import built, is_history, stages, stop_of
from mitrehouse.linear import frame, make_row, reduced_rows, solve
from mitrehouse.measures import flat_area, section
from mitrehouse.ratios import opposite, plus, ratio, times, total
from mitrehouse.settling import paper_of, settle
from mitrehouse.slices import flat_of, ring_area, rings_of
from mitrehouse.sketches import sketch_rows, unknowns_of
from mitrehouse.standing import standing_paper, stands
from mitrehouse.texts import read_history, write_history
from mitrehouse.versions import changes, merged
from samples import box_sketch, feature, num
from test_apart import scattered
from test_bodies import random_body
from test_desk import load
from test_drags import NUMBERS, random_places
from test_drags import random_sketch as random_drag_sketch
from test_linear import random_rows
from test_measures import stretched
from test_settling import random_sketch

NAMES = list("abcde")
W = ("of", "w")


def random_history(chance, many=4, turns=6):
    """Returns a history of boxes, on base planes and on faces of what was built before, that perhaps stops."""
    features = []
    for k in range(many):
        place = ("base", chance.randint(0, 2), num(chance.randint(-1, 1)))
        if features and chance.random() < 0.6:
            before = stages(((("w", ratio(2)),), tuple(features))) if stop_of(((("w", ratio(2)),), tuple(features))) is None else []
            told = faces(before[-1]) if before else []
            name = least_name(before[-1], chance.randrange(len(told))) if told else None
            place = ("on", name) if name is not None else place
        sketch = box_sketch(chance.choice([W, num(chance.randint(1, 4))]), num(chance.randint(1, 3)),
                            num(chance.randint(-1, 2)), num(chance.randint(-1, 2), 2))
        deed = "join" if k == 0 else chance.choice(["join", "join", "cut", "cut", "keep"])
        low = chance.randint(-2, 0)
        features.append(feature("f" + str(k), deed, place, sketch, low=num(low), high=num(low + chance.randint(1, 4))))
    return ((("w", ratio(2)),), tuple(features))


class Papers(unittest.TestCase):
    def test_rows_have_values_or_a_clash(self):
        # [22] and [23]: values or factors, never both; the frame makes the reduced rows; all values are told.
        chance = random.Random(22)
        for _ in range(150):
            rows = random_rows(chance, chance.randint(0, 5), NAMES)
            told = solve(rows, NAMES)
            if told[0] == "none":
                self.assertTrue(takes_clash(rows, told[1]))
                continue
            self.assertTrue(takes_frame(rows, frame(rows, NAMES)))
            self.assertEqual([lead for lead, _ in frame(rows, NAMES)], [row[0][0][0] for row in reduced_rows(rows, NAMES)])
            values = told[1]
            for way in told[2] if told[0] == "free" else []:
                far = ratio(chance.randint(-3, 3), 2)
                values = {name: plus(values[name], times(far, way[name])) for name in NAMES}
                self.assertTrue(takes_values([(row[0], (0, 1)) for row in rows], way))
            self.assertTrue(takes_values(rows, values))
            self.assertTrue(takes_values(reduced_rows(rows, NAMES), values))
            self.assertFalse(takes_clash(rows, [ratio(chance.randint(-2, 2)) for _ in rows]))

    def test_settled_sketches(self):
        # [33] and [34]: whatever is settled is shown by its paper, and its shapes are shapes.
        chance = random.Random(33)
        words = set()
        for _ in range(200):
            sketch = random_sketch(chance)
            told = settle(sketch, {})
            words.add(told[0] if told[0] != "none" else told[1])
            self.assertTrue(takes_told(sketch, {}, told, paper_of(sketch, {})))
            for shape in {"one": told[1:2], "some": told[1], "free": told[1:2]}.get(told[0], []):
                self.assertTrue(takes_shape(sketch, {}, shape))
            rows = sketch_rows(sketch, {})
            self.assertIs(told[:2] == ("none", "rows"), solve(rows, unknowns_of(sketch))[0] == "none")
            self.assertEqual(told, settle(sketch, {}))
        self.assertEqual(len(words), 7)

    def test_drags(self):
        # [122] and [123]: there is just one drag, and its paper is taken.
        chance = random.Random(122)
        for _ in range(60):
            sketch = random_drag_sketch(chance)
            shape = random_places(chance, sketch[0])
            wishes = random_places(chance, chance.sample(sketch[0], chance.randint(0, 1)))
            try:
                drag = dragged(sketch, NUMBERS, shape, wishes)
            except NotThere:
                continue
            paper = drag_paper(sketch, NUMBERS, shape, wishes)
            self.assertTrue(takes_drag(sketch, NUMBERS, shape, wishes, drag, paper))
            self.assertEqual(dragged(sketch, NUMBERS, drag, wishes), drag)

    def test_standing(self):
        # [132]: one paper that it does not fall, or one that it falls; one that it does not stand if it tips or falls.
        chance = random.Random(132)
        for _ in range(60):
            body = stretched(chance, random_body(chance, "f", 2))
            if body == EMPTY:
                continue
            word, paper = stands(body), standing_paper(body)
            self.assertEqual({"stands": "held", "tips": "edge", "falls": "falls"}[word], paper[0])
            self.assertTrue(takes_standing(body, paper))
            if word != "stands":
                self.assertFalse(takes_standing(body, ("held", [])))
                line = paper[-1]
                self.assertIs(takes_standing(body, ("falls", line)), word == "falls")
                self.assertFalse(takes_standing(body, ("falls", tuple(opposite(one) for one in line))))


class Histories(unittest.TestCase):
    def test_names_of_faces(self):
        # [63] and [64]: a face has a name that means it just if it has no twin, and its paper is taken.
        chance = random.Random(63)
        twins = 0
        bodies = [random_body(chance, "f", 3, "a") for _ in range(25)]
        for _ in range(25):
            history = random_history(chance)
            bodies += stages(history) if stop_of(history) is None else []
        for body in bodies:
            told, marks = faces(body), marks_of(body)
            for index, face in enumerate(told):
                name = least_name(body, index)
                self.assertIs(name is None, twin(body, index) is not None)
                if name is None:
                    twins += 1
                    self.assertLessEqual(set(marks[index]), set(marks[twin(body, index)]))
                    continue
                self.assertEqual(meant(body, name), index)
                paper = [(told[other], mark) for other, mark in name_paper(body, index, name)]
                self.assertTrue(takes_name(body, face, name, paper))
                self.assertFalse(any(takes_name(body, other, name, paper) for other in told if other != face))
        self.assertGreater(twins, 20)

    def test_faces_of_what_comes(self):
        # [65]: each face of what comes has a label of a face of the one or the other body in the same plane.
        chance = random.Random(65)
        for _ in range(40):
            history = random_history(chance, 5)
            if stop_of(history) is None:
                bodies = stages(history)
                for body in bodies:
                    self.assertTrue(is_body(body) and takes_body(body))
                self.assertEqual(bodies[-1], built(history))

    def test_drawings_build_what_their_histories_tell(self):
        # [75]: whatever is kept, the body is that of the history from nothing, and so is where it stops.
        chance = random.Random(75)
        for _ in range(12):
            drawing = Drawing(random_history(chance, 5))
            for _ in range(10):
                deed = chance.randrange(4)
                history = drawing.history()
                names = [one[0] for one in history[1]]
                if deed == 0:
                    drawing.set_number("w", ratio(chance.randint(-1, 4), 2))
                elif deed == 1 and names:
                    drawing.drop(chance.choice(names))
                elif deed == 2:
                    other = chance.choice(random_history(chance, 4)[1])
                    drawing.put(chance.randint(0, len([one for one in names if one != other[0]])), other)
                else:
                    drawing.take(random_history(chance, 4) if chance.random() < 0.3 else history)
                history = drawing.history()
                try:
                    told = drawing.body()
                    self.assertEqual(told, built(history))
                except Stops as stop:
                    self.assertEqual((stop.name, stop.reason), stop_of(history))
                    self.assertEqual(drawing.anew()[-1:], [stop.name])

    def test_merges(self):
        # [93]: one side unchanged, both equal, both exchanged.
        chance = random.Random(93)
        for _ in range(60):
            base, left, right = [random_history(chance, chance.randint(0, 4)) for _ in range(3)]
            self.assertEqual(merged(base, base, right), ("merged", right))
            self.assertEqual(merged(base, left, left), ("merged", left))
            one, other = merged(base, left, right), merged(base, right, left)
            self.assertEqual(one[0], other[0])
            if one[0] == "merged":
                self.assertTrue(is_history(one[1]))
                self.assertEqual((one[1][0], sorted(one[1][1])), (other[1][0], sorted(other[1][1])))
            else:
                self.assertEqual(one, other)
            self.assertEqual(changes(base, base), [])

    def test_texts_of_all_histories(self):
        chance = random.Random(161)
        for _ in range(40):
            history = random_history(chance, chance.randint(0, 5))
            self.assertEqual(read_history(write_history(history)), history)

    def test_a_desk_tells_what_the_modules_tell(self):
        chance = random.Random(190)
        for _ in range(15):
            history = random_history(chance)
            lines = load("p", history) + ["build p", "build p"]
            stop = stop_of(history)
            told = answers_to(lines)[-2:]
            if stop is not None:
                self.assertEqual(told, [[f"stops {stop[0]} {stop[1]}"]] * 2)
            else:
                self.assertEqual([answer[1] for answer in told], ["anew f0 f1 f2 f3", "anew"])
                self.assertEqual(told[0][0].split(" ")[3], str(len(faces(built(history)))))
        self.assertEqual(Desk().names(), [])


class Bodies(unittest.TestCase):
    def test_apart_or_held(self):
        # [106]: they come apart in an order, or a greatest set of them hold each other, whatever order is chosen.
        chance = random.Random(106)
        for _ in range(25):
            bodies = scattered(chance, chance.randint(1, 6))
            self.assertEqual(overlaps(bodies), [])
            word, told = taken_apart(bodies)
            self.assertTrue(takes_order(bodies, told) if word == "apart" else takes_held(bodies, told))
            left = sorted(bodies)
            chance.shuffle(left)
            free = True
            while free:
                free = [name for name in left if any(not set(blockers(bodies, name, d)) & set(left) for d in range(6))]
                if free:
                    left.remove(chance.choice(free))
            self.assertEqual(sorted(left), [name for name, _ in told] if word == "held" else [])
            for one, other in combinations(sorted(bodies), 2):
                for d in range(6):
                    self.assertIs(other in blockers(bodies, one, d), one in blockers(bodies, other, d ^ 1))

    def test_rings_of_sections(self):
        # [172]: the areas of the rings sum to that of the flat, and the rings alone tell the flat.
        chance = random.Random(172)
        for _ in range(40):
            body = stretched(chance, random_body(chance, "f"))
            for axis in range(3):
                for at in body[axis]:
                    flat = section(body, axis, at)
                    rings = rings_of(flat)
                    self.assertEqual(total([ring_area(ring) for ring in rings]), flat_area(flat))
                    self.assertEqual(flat_of(rings), flat)

    def test_bodies_that_are_moved_keep_their_papers(self):
        chance = random.Random(131)
        for _ in range(20):
            body = random_body(chance, "f", 2)
            if body != EMPTY:
                far = moved(body, (ratio(0), ratio(0), ratio(chance.randint(-9, 9), 7)))
                self.assertTrue(takes_standing(far, standing_paper(body)))

    def test_exact_fractions_of_any_size(self):
        # [0]: a row with large integers is solved exactly.
        big = ratio(10 ** 60 + 1, 10 ** 59 + 7)
        row = make_row([("x", big)], ratio(1))
        self.assertEqual(solve([row], ["x"]), ("one", {"x": ratio(10 ** 59 + 7, 10 ** 60 + 1)}))


if __name__ == "__main__":
    unittest.main()
