import copy
import random
import unittest
from itertools import permutations, product

from mitrehouse.apart import (accepts_held, accepts_order, blockers, is_blocked, room, taken_apart)
from mitrehouse.assemblies import overlaps
from mitrehouse.bodies import EMPTY, moved, thin
from mitrehouse.errors import NotRight, NotThere, TooLarge
from mitrehouse.ratios import ratio
from samples import as_ratio, block, fraction, grid_body, label_of
from test_bodies import random_body

BOX = block((0, 0, 0), (2, 2, 2))


def box_at(x, y, z, size=2):
    return block((x, y, z), (x + size, y + size, z + size))


def boxes(body):
    """Returns the boxes of a body: for each axis the pair of both ends, as fractions."""
    return [tuple((fraction(body[axis][place[axis]]), fraction(body[axis][place[axis] + 1])) for axis in range(3))
            for place, _ in body[3]]


def beside_each_other(box, other, axis):
    """Returns True if two boxes have a common area along the two axes that are not the axis."""
    return all(box[k][0] < other[k][1] and other[k][0] < box[k][1] for k in range(3) if k != axis)


def slow_blocked(body, other, direction):
    axis = direction // 2
    for box, block_ahead in product(boxes(body), boxes(other)):
        if beside_each_other(box, block_ahead, axis):
            if direction % 2 == 1 and block_ahead[axis][1] > box[axis][0]:
                return True
            if direction % 2 == 0 and block_ahead[axis][0] < box[axis][1]:
                return True
    return False


def slow_room(bodies, name, direction):
    axis = direction // 2
    gaps = []
    for other in bodies:
        for box, ahead in product(boxes(bodies[name]), boxes(bodies[other])) if other != name else []:
            if beside_each_other(box, ahead, axis):
                gap = ahead[axis][0] - box[axis][1] if direction % 2 == 1 else box[axis][0] - ahead[axis][1]
                gaps += [gap] if gap >= 0 else []
    return as_ratio(min(gaps)) if gaps else None


def slow_apart(bodies):
    left, steps = sorted(bodies), []
    while left:
        free = [(name, d) for name in left for d in range(6)
                if not any(other != name and slow_blocked(bodies[name], bodies[other], d) for other in left)]
        if not free:
            return ("held", [(name, [min(other for other in left if other != name
                                         and slow_blocked(bodies[name], bodies[other], d)) for d in range(6)])
                             for name in left])
        steps.append(min(free))
        left.remove(min(free)[0])
    return ("apart", steps)


def scattered(chance, many):
    """Returns bodies that do not overlap, moved to places of a rough grid."""
    found = {}
    for name in chance.sample("abcdefg", many):
        for _ in range(20):
            body = moved(random_body(chance, name, 2), tuple(ratio(chance.randint(0, 7)) for _ in range(3)))
            if body != EMPTY and not overlaps({**found, name: body}):
                found[name] = body
                break
    return found


def frame_of(name="f"):
    """Returns a ring of boxes around the place from 1 to 2, open along z."""
    return grid_body([(i, j, 0) for i in range(3) for j in range(3) if (i, j) != (1, 1)], name)


# A lid at both ends of the frame, and a core in it: the core is held as long as both lids are there.
CASE = {"frame": frame_of(), "core": block((1, 1, 0), (2, 2, 1)), "over": block((0, 0, 1), (3, 3, 2)),
        "under": block((0, 0, -1), (3, 3, 0))}


def ring_of(name, axis, places):
    """Returns a link: a ring of boxes in the plane across an axis."""
    cells = [place[:axis] + (0,) + place[axis:] for place in places]
    return grid_body(cells, name)


# Two links of a chain: each goes through the other one.
LINK = [(i, j) for i in range(5) for j in range(5) if i in (0, 4) or j in (0, 4)]
CHAIN = {"one": ring_of("f", 2, LINK),
         "two": moved(ring_of("g", 1, LINK), (ratio(2), ratio(2), ratio(-2)))}


class Blocked(unittest.TestCase):
    def check(self, bodies):
        """Checks all names and directions against all pairs of boxes."""
        before = copy.deepcopy(bodies)
        for name in bodies:
            for d in range(6):
                wanted = sorted(other for other in bodies if other != name
                                and slow_blocked(bodies[name], bodies[other], d))
                self.assertEqual(blockers(bodies, name, d), wanted)
                self.assertEqual(room(bodies, name, d), slow_room(bodies, name, d))
                for other in bodies:
                    if other != name:
                        self.assertIs(is_blocked(bodies[name], bodies[other], d), other in wanted)
        self.assertEqual(bodies, before)

    def test_ahead_behind_beside(self):
        other = box_at(5, 1, 1)
        self.assertEqual([is_blocked(BOX, other, d) for d in range(6)], [False, True, False, False, False, False])
        self.assertEqual([is_blocked(other, BOX, d) for d in range(6)], [True, False, False, False, False, False])
        self.assertEqual([room({"a": BOX, "b": other}, "a", d) for d in range(6)], [None, ratio(3)] + [None] * 4)
        self.assertEqual([room({"a": BOX, "b": other}, "b", d) for d in range(6)], [ratio(3)] + [None] * 5)
        # Sides, edges and corners that only touch along the way do not block.
        for place in ((5, 2, 0), (5, 2, 2), (5, 0, -2), (2, 2, 2)):
            self.assertEqual([is_blocked(BOX, box_at(*place), d) for d in range(6)], [False] * 6)
            self.check({"a": BOX, "b": box_at(*place)})

    def test_all_six_directions(self):
        for d in range(6):
            place = [0, 0, 0]
            place[d // 2] = 4 if d % 2 == 1 else -4
            bodies = {"a": BOX, "b": box_at(*place)}
            self.assertEqual([is_blocked(BOX, bodies["b"], k) for k in range(6)], [k == d for k in range(6)])
            self.assertEqual([room(bodies, "a", k) for k in range(6)], [ratio(2) if k == d else None for k in range(6)])
            self.assertEqual(blockers(bodies, "a", d), ["b"])
            self.check(bodies)

    def test_touching(self):
        bodies = {"a": BOX, "b": box_at(2, 0, 0)}
        self.assertEqual([room(bodies, "a", d) for d in range(6)], [None, ratio(0), None, None, None, None])
        self.assertEqual([is_blocked(BOX, bodies["b"], d) for d in range(6)], [False, True, False, False, False, False])

    def test_overlapping_and_in_one_another(self):
        bodies = {"a": BOX, "b": box_at(1, 0, 0)}
        # What overlaps reaches further both ways than the side that looks backwards.
        self.assertEqual([is_blocked(BOX, bodies["b"], d) for d in range(6)], [True] * 6)
        self.assertEqual([room(bodies, "a", d) for d in range(6)], [None] * 6)
        self.check(bodies)
        self.check({"frame": frame_of(), "core": block((1, 1, 0), (2, 2, 1))})
        self.check({"frame": frame_of(), "core": block((1, 1, -3), (2, 2, -1))})
        self.check({"a": BOX, "b": block(((1, 2), (1, 2), (1, 2)), (1, 1, 1))})

    def test_room_in_a_frame(self):
        bodies = {"frame": frame_of(), "core": block(((5, 4), (4, 3), 0), ((3, 2), (3, 2), 1))}
        self.assertEqual([room(bodies, "core", d) for d in range(6)],
                         [ratio(1, 4), ratio(1, 2), ratio(1, 3), ratio(1, 2), None, None])
        self.assertEqual([room(bodies, "frame", d) for d in range(6)],
                         [ratio(1, 2), ratio(1, 4), ratio(1, 2), ratio(1, 3), None, None])

    def test_room_is_the_least_of_several(self):
        bodies = {"a": BOX, "near": box_at(3, 1, 1), "far": box_at(8, 0, 0), "back": box_at(-5, 0, 0)}
        self.assertEqual((room(bodies, "a", 1), room(bodies, "a", 0)), (ratio(1), ratio(3)))
        self.assertEqual(blockers(bodies, "a", 1), ["far", "near"])
        self.check(bodies)

    def test_a_step_ahead(self):
        # The lower box of b is nearer, but only the upper one has a common area with a.
        steps = grid_body([(0, 0, 0), (1, 0, 0), (1, 0, 1)])
        bodies = {"a": block((-4, 0, 1), (-2, 1, 2)), "b": steps}
        self.assertEqual(room(bodies, "a", 1), ratio(3))
        self.check(bodies)

    def test_random_bodies(self):
        chance = random.Random(105)
        for _ in range(30):
            bodies = {name: moved(random_body(chance, name, 2), tuple(ratio(chance.randint(-3, 3)) for _ in range(3)))
                      for name in chance.sample("abcd", 3)}
            if EMPTY not in bodies.values():
                self.check(bodies)

    def test_not_there(self):
        bodies = {"a": BOX, "b": box_at(5, 0, 0)}
        for direction in (-1, 6, 99, True, None, "1"):
            for ask in (lambda: is_blocked(BOX, bodies["b"], direction), lambda: blockers(bodies, "a", direction),
                        lambda: room(bodies, "a", direction)):
                self.assertRaises(NotThere, ask)
        for name in ("c", "", "A"):
            self.assertRaises(NotThere, blockers, bodies, name, 0)
            self.assertRaises(NotThere, room, bodies, name, 0)
        self.assertEqual((blockers({"a": BOX}, "a", 0), room({"a": BOX}, "a", 0)), ([], None))

    def test_bodies_with_many_cuts(self):
        cuts = [tuple(ratio(k) for k in range(15)) for _ in range(3)]
        one = thin(*cuts, {(k, k, k): tuple(label_of("f", d) for d in range(6)) for k in range(14)})
        other = moved(one, (ratio(1, 2), ratio(1, 2), ratio(1, 2)))
        # More than 20000 boxes: this is no reason to refuse these three.
        self.assertIs(is_blocked(one, other, 0), True)
        self.assertEqual((blockers({"a": one, "b": other}, "a", 5), room({"a": one, "b": other}, "a", 5)), (["b"], None))
        for ask in (lambda: taken_apart({"a": one, "b": other}), lambda: accepts_order({"a": one, "b": other}, []),
                    lambda: accepts_held({"a": one, "b": other}, [])):
            self.assertRaises(TooLarge, ask)


class TakenApart(unittest.TestCase):
    def check(self, bodies):
        before = copy.deepcopy(bodies)
        told = taken_apart(bodies)
        self.assertEqual(told, slow_apart(bodies))
        self.assertIs(accepts_order(bodies, told[1] if told[0] == "apart" else []), not bodies or told[0] == "apart")
        if told[0] == "held":
            self.assertIs(accepts_held(bodies, told[1]), True)
        self.assertEqual(bodies, before)
        return told

    def test_none_and_one(self):
        self.assertEqual(self.check({}), ("apart", []))
        self.assertEqual(self.check({"b": BOX}), ("apart", [("b", 0)]))

    def test_the_first_name_and_the_least_direction(self):
        self.assertEqual(self.check({"b": BOX, "a": box_at(-2, 0, 0)}), ("apart", [("a", 0), ("b", 0)]))
        self.assertEqual(self.check({"a": BOX, "b": box_at(-2, 0, 0)}), ("apart", [("a", 1), ("b", 0)]))
        # A body that was not free before may be now, and its name may be an earlier one.
        self.assertEqual(self.check(CASE), ("apart", [("over", 0), ("core", 5), ("frame", 0), ("under", 0)]))

    def test_chain(self):
        self.assertEqual(overlaps(CHAIN), [])
        told = self.check(CHAIN)
        self.assertEqual(told, ("held", [("one", ["two"] * 6), ("two", ["one"] * 6)]))

    def test_held_in_part(self):
        more = {**CHAIN, "a": moved(BOX, (ratio(20), ratio(0), ratio(0))), "z": box_at(-9, 0, 0)}
        self.assertEqual(self.check(more)[0], "held")
        self.assertEqual([name for name, _ in self.check(more)[1]], ["one", "two"])
        third = {**CHAIN, "third": moved(ring_of("h", 1, LINK), (ratio(-3), ratio(2), ratio(-2)))}
        self.assertEqual(overlaps(third), [])
        told = self.check(third)
        self.assertEqual([name for name, _ in told[1]], ["one", "third", "two"])
        # In the direction of the x axis the first link is blocked by both others; the least name is told.
        self.assertEqual(told[1][0], ("one", ["third"] * 6))

    def test_whatever_order_is_chosen(self):
        chance = random.Random(106)
        words = {}
        for _ in range(40):
            bodies = scattered(chance, chance.randint(2, 6))
            told = self.check(bodies)
            words[told[0]] = True
        for names in permutations(sorted(CASE)):
            self.check({name: CASE[old] for name, old in zip(names, sorted(CASE))})
        far = {name: moved(body, (ratio(30), ratio(30), ratio(30))) for name, body in CASE.items()}
        self.assertEqual([name for name, _ in self.check({**far, **CHAIN})[1]], ["one", "two"])
        self.assertIn("apart", words)

    def test_not_right(self):
        bodies = {"a": BOX, "b": box_at(1, 1, 1), "c": box_at(9, 9, 9)}
        for ask in (lambda: taken_apart(bodies), lambda: accepts_order(bodies, [("zzz", 99)]),
                    lambda: accepts_held(bodies, [])):
            self.assertRaises(NotRight, ask)


class Orders(unittest.TestCase):
    def setUp(self):
        self.steps = [("over", 0), ("core", 5), ("frame", 0), ("under", 0)]

    def accepted(self, steps):
        return accepts_order(CASE, steps)

    def test_right_ones(self):
        for steps in (self.steps, [("over", 5), ("core", 5), ("under", 3), ("frame", 1)],
                      [("under", 2), ("core", 4), ("frame", 3), ("over", 4)],
                      [("over", 1), ("under", 1), ("core", 4), ("frame", 2)],
                      [("over", 1), ("under", 1), ("frame", 5), ("core", 2)]):
            self.assertIs(self.accepted(steps), True, steps)

    def test_wrong_ones(self):
        for k in range(4):
            self.assertIs(self.accepted(self.steps[:k] + self.steps[k + 1:]), False)
            self.assertIs(self.accepted(self.steps[:k + 1] + self.steps[k:]), False)
            for other in ("zzz", "", "Over"):
                changed = self.steps[:k] + [(other, self.steps[k][1])] + self.steps[k + 1:]
                self.assertIs(self.accepted(changed), False)
        self.assertIs(self.accepted([self.steps[1], self.steps[0]] + self.steps[2:]), False)
        self.assertIs(self.accepted([]), False)
        self.assertIs(self.accepted(self.steps + [("zzz", 0)]), False)

    def test_another_direction(self):
        for direction in (0, 1, 2, 3, 4, 6, -1, 11, True, "5"):
            self.assertIs(self.accepted([self.steps[0], ("core", direction)] + self.steps[2:]), False, direction)
        self.assertIs(self.accepted([("over", 4)] + self.steps[1:]), False)
        self.assertIs(self.accepted(self.steps[:3] + [("under", 6)]), False)

    def test_bodies_that_never_come_apart(self):
        for steps in ([("one", 0), ("two", 0)], [("two", 4), ("one", 4)], []):
            self.assertIs(accepts_order(CHAIN, steps), False)
        self.assertIs(accepts_order({}, []), True)


class Held(unittest.TestCase):
    def setUp(self):
        self.bodies = {**CHAIN, "third": moved(ring_of("h", 1, LINK), (ratio(-3), ratio(2), ratio(-2))),
                       "away": moved(BOX, (ratio(50), ratio(0), ratio(0)))}
        self.rows = [("one", ["two"] * 6), ("two", ["one"] * 6)]

    def accepted(self, rows):
        return accepts_held(self.bodies, rows)

    def test_right_ones(self):
        self.assertIs(self.accepted(self.rows), True)
        # In any order, with a part of the greatest set, and with any of several blockers.
        self.assertIs(self.accepted(self.rows[::-1]), True)
        self.assertIs(self.accepted([("third", ["one"] * 6), ("one", ["third"] * 6)]), True)
        mixed = ["two" if "two" in blockers(self.bodies, "one", d) and d % 2 else "third" for d in range(6)]
        self.assertIn("two", mixed)
        self.assertIs(self.accepted([("one", mixed), ("two", ["one"] * 6), ("third", ["one"] * 6)]), True)

    def test_none_and_one(self):
        self.assertIs(self.accepted([]), False)
        self.assertIs(self.accepted([("one", ["one"] * 6)]), False)
        self.assertIs(self.accepted([("one", ["two"] * 6)]), False)
        self.assertIs(self.accepted(self.rows[:1]), False)

    def test_twice_and_strange_names(self):
        self.assertIs(self.accepted(self.rows + self.rows[:1]), False)
        self.assertIs(self.accepted(self.rows + [("zzz", ["one"] * 6)]), False)
        self.assertIs(self.accepted([("zzz", ["one"] * 6)] + self.rows), False)
        for d in range(6):
            for other in ("zzz", "one", "third", "away", ""):
                names = ["two"] * 6
                names[d] = other
                self.assertIs(self.accepted([("one", names), self.rows[1]]), False, (d, other))

    def test_lists_of_another_length(self):
        for many in (0, 1, 5, 7, 12):
            self.assertIs(self.accepted([("one", ["two"] * many), self.rows[1]]), False)

    def test_a_blocker_that_does_not_block(self):
        self.assertIs(self.accepted(self.rows + [("away", ["one"] * 6)]), False)
        # The box far away blocks the links along x, but in no other direction.
        self.bodies["away"] = moved(BOX, (ratio(50), ratio(1), ratio(-1)))
        self.assertEqual([("away" in blockers(self.bodies, "one", d)) for d in range(6)],
                         [False, True, False, False, False, False])
        for d in range(6):
            names = ["two"] * 6
            names[d] = "away"
            rows = [("one", names), self.rows[1], ("away", ["one"] * 6)]
            self.assertIs(self.accepted(rows), False)
        self.assertIs(accepts_held(CASE, [("core", ["frame", "frame", "frame", "frame", "under", "over"]),
                                          ("frame", ["core", "core", "core", "core", "under", "over"])]), False)

    def test_bodies_that_come_apart_are_not_held(self):
        names = sorted(CASE)
        for told in product(names, repeat=2):
            rows = [(name, [other for other in told for _ in range(3)]) for name in names]
            self.assertIs(accepts_held(CASE, rows), False)


if __name__ == "__main__":
    unittest.main()
