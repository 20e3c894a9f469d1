"""Orders and bodies that hold each other: many tellings of the same bodies, asked in turn with others."""

import copy
import random
import unittest
from itertools import combinations, product
from unittest import mock

from mitrehouse import apart as module
from mitrehouse.apart import accepts_held, accepts_order, taken_apart
from mitrehouse.bodies import moved, thin
from mitrehouse.errors import NotRight, TooLarge
from mitrehouse.ratios import ratio
from changes import changed
from samples import grid_body, labelled_cells
from test_apart import CASE, CHAIN, boxes, scattered, slow_blocked

NAMES = "abcdefgh"


def eight_bodies():
    """Returns eight bodies that fill a grid of 4 by 4 by 4 unit cubes, in turn along winding rows."""
    cuts = tuple(ratio(at) for at in range(5))
    places = {name: [] for name in NAMES}
    for i, j, k in product(range(4), repeat=3):
        places[NAMES[(5 * i + 3 * j + 7 * k + i * j + j * k) % 8]].append((i, j, k))
    return {name: thin(cuts, cuts, cuts, labelled_cells(cells, lambda place, d: (name, "s"))) for name, cells in places.items()}


EIGHT = eight_bodies()
STACK = {name: moved(grid_body([(0, 0, 0)], name), (ratio(0), ratio(0), ratio(k))) for k, name in enumerate("dacb")}
OVERLAPPING = {"a": grid_body([(0, 0, 0), (1, 0, 0)]), "b": moved(grid_body([(0, 0, 0)]), (ratio(1, 2), ratio(0), ratio(0))),
               "c": moved(grid_body([(0, 0, 0)]), (ratio(9), ratio(0), ratio(0)))}


def far(bodies, by):
    return {name: moved(body, (ratio(by), ratio(0), ratio(0))) for name, body in bodies.items()}


def rebuilt(bodies):
    """Returns bodies that are equal to bodies but share no tuple of cells with them."""
    return {name: (xs, ys, zs, tuple([(tuple(list(place)), tuple(list(labels))) for place, labels in cells]))
            for name, (xs, ys, zs, cells) in bodies.items()}


def overlap(body, other):
    return any(all(max(box[a][0], there[a][0]) < min(box[a][1], there[a][1]) for a in range(3))
               for box, there in product(boxes(body), boxes(other)))


class Slow:
    """What blocks what, box by box, and what the words of the document tell of it."""

    def __init__(self, bodies):
        self.names = sorted(bodies)
        self.overlap = any(overlap(bodies[a], bodies[b]) for a, b in combinations(self.names, 2))
        self.blocked = {(a, d): [b for b in self.names if b != a and slow_blocked(bodies[a], bodies[b], d)]
                        for a in self.names for d in range(6)}

    def free(self, left):
        return [(a, d) for a in left for d in range(6) if not set(self.blocked[a, d]) & set(left)]

    def apart(self):
        left, steps = list(self.names), []
        while self.free(left):
            steps.append(self.free(left)[0])
            left.remove(steps[-1][0])
        if not left:
            return ("apart", steps)
        return ("held", [(a, [[b for b in self.blocked[a, d] if b in left][0] for d in range(6)]) for a in left])

    def order(self, steps):
        left = list(self.names)
        for step in steps:
            if step not in self.free(left):
                return False
            left.remove(step[0])
        return not left

    def held(self, rows):
        names = [a for a, _ in rows]
        if not rows or len(set(names)) < len(names) or not set(names) <= set(self.names):
            return False
        return all(len(others) == 6 and all(b in names and b in self.blocked[a, d] for d, b in enumerate(others))
                   for a, others in rows)


class Crowds(unittest.TestCase):
    def check(self, bodies, slow):
        """Checks what is told of bodies, and each telling with one thing changed."""
        before = copy.deepcopy(bodies)
        if slow.overlap:
            for ask in (lambda: taken_apart(bodies), lambda: accepts_order(bodies, []), lambda: accepts_held(bodies, []),
                        lambda: accepts_order(bodies, [("zzz", 9)])):
                self.assertRaises(NotRight, ask)
            return
        told = taken_apart(bodies)
        self.assertEqual(told, slow.apart())
        steps = told[1] if told[0] == "apart" else [(name, d) for d, name in enumerate(slow.names)]
        rows = told[1] if told[0] == "held" else [(name, slow.names[:6]) for name in slow.names]
        for telling in [steps, steps[::-1], []] + changed(steps):
            self.assertIs(accepts_order(bodies, telling), slow.order(telling), telling)
        for telling in [rows, rows[::-1], []] + changed(rows):
            self.assertIs(accepts_held(bodies, telling), slow.held(telling), telling)
        # What was handed out may be changed.
        told[1].append(("zzz", 0))
        told[1].reverse()
        self.assertEqual(taken_apart(bodies), slow.apart())
        self.assertEqual(bodies, before)

    def test_the_eight_bodies(self):
        self.assertEqual(sorted(EIGHT), list(NAMES))
        self.assertEqual(sum(len(boxes(body)) for body in EIGHT.values()), 64)
        self.check(EIGHT, Slow(EIGHT))
        self.assertEqual(taken_apart(EIGHT)[0], "held")
        # Without any one of them the others are checked, too.
        for name in NAMES:
            less = {other: EIGHT[other] for other in NAMES if other != name}
            self.check(less, Slow(less))

    def test_bodies_in_turn(self):
        chance = random.Random(106)
        sets = [EIGHT, CASE, CHAIN, OVERLAPPING, STACK, {**EIGHT, "a": EIGHT["b"]}, far(EIGHT, 1), far(CASE, 7), {}]
        sets += [scattered(chance, 4) for _ in range(4)]
        slows = [Slow(bodies) for bodies in sets]
        # More sets than are kept, each of them asked for again and again, and the first ones in between.
        for _ in range(2):
            for bodies, slow in zip(sets, slows):
                self.check(bodies, slow)
                self.check(EIGHT, slows[0])
                self.check(rebuilt(bodies), slow)
                self.check(OVERLAPPING, slows[3])

    def test_bodies_that_are_put_in_and_taken_out_of_a_dict(self):
        bodies = dict(CASE)
        steps = taken_apart(bodies)[1]
        self.assertIs(accepts_order(bodies, steps), True)
        bodies["more"] = moved(CASE["core"], (ratio(50), ratio(0), ratio(0)))
        self.assertIs(accepts_order(bodies, steps), False)
        self.assertEqual([name for name, _ in taken_apart(bodies)[1]], ["more", "over", "core", "frame", "under"])
        bodies["more"] = CASE["core"]
        self.assertRaises(NotRight, accepts_order, bodies, steps)
        del bodies["more"]
        self.assertIs(accepts_order(bodies, steps), True)
        bodies["over"] = moved(bodies["over"], (ratio(0), ratio(0), ratio(5)))
        self.assertIs(accepts_order(bodies, [("core", 5)] + steps[:1] + steps[2:]), False)
        self.assertIs(accepts_order(bodies, steps), True)

    def test_other_names_and_other_orders_of_names(self):
        turned_round = {name: EIGHT[name] for name in NAMES[::-1]}
        self.check(turned_round, Slow(turned_round))
        renamed = {name: EIGHT[other] for name, other in zip(NAMES, NAMES[::-1])}
        self.check(renamed, Slow(renamed))
        self.check(EIGHT, Slow(EIGHT))

    def test_too_large_each_time(self):
        one = grid_body([(k, k, k) for k in range(14)])
        large = {"a": one, "b": moved(one, (ratio(1, 2), ratio(1, 2), ratio(40))), "c": moved(one, (ratio(99), ratio(0), ratio(0)))}
        small = {"a": one, "b": moved(one, (ratio(0), ratio(0), ratio(40)))}
        for _ in range(3):
            for ask in (lambda: taken_apart(large), lambda: accepts_order(large, []), lambda: accepts_held(large, [])):
                self.assertRaises(TooLarge, ask)
            self.assertEqual(taken_apart(small), ("apart", [("a", 0), ("b", 0)]))
        # Too large ahead of an overlap of others.
        self.assertRaises(TooLarge, taken_apart, {**large, "d": one})
        # The cuts of all three make more than 20000 boxes, but those of no two of them do.
        twelve = grid_body([(k, k, k) for k in range(12)])
        many = {name: moved(twelve, (ratio(k, 3), ratio(k, 3), ratio(60 * k + k, 3))) for k, name in enumerate("abc")}
        self.check(many, Slow(many))

    def test_what_blocks_what_is_found_once(self):
        bodies = far(EIGHT, 1234)
        with mock.patch.object(module, "blocks_among", wraps=module.blocks_among) as found:
            told = taken_apart(bodies)
            for telling in changed(told[1])[:30]:
                accepts_held(bodies, telling)
                accepts_order(rebuilt(bodies), [("a", 0)])
            self.assertEqual(taken_apart(rebuilt(bodies)), told)
        self.assertEqual(found.call_count, 1)


if __name__ == "__main__":
    unittest.main()
