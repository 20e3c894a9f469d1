import copy
import random
import unittest
from fractions import Fraction
from itertools import combinations, product

from mitrehouse.assemblies import overlaps
from mitrehouse.bodies import EMPTY, joined, moved
from mitrehouse.errors import NotRight, NotThere
from mitrehouse.ratios import ratio
from mitrehouse.strokes import are_clear, stroke_at, strokes
from samples import as_ratio, block, fraction, grid_body
from test_bodies import random_body, triple

STILL = triple(0, 0, 0)
BOX = block((0, 0, 0), (2, 2, 2))


def bounds(*pairs):
    """Returns strokes of pairs of numbers."""
    return [tuple(None if one is None else as_ratio(Fraction(one)) for one in pair) for pair in pairs]


def ends(body, axis):
    return [fraction(one) for one in body[axis]]


def at_time(bodies, ways, time):
    return {name: moved(bodies[name], tuple(as_ratio(time * fraction(one)) for one in ways[name])) for name in bodies}


def slow_strokes(bodies, ways):
    """Returns the strokes, from the overlaps at each time at which two cuts meet, and between such times."""
    times = set()
    for name, other in combinations(sorted(bodies), 2):
        for axis in range(3):
            way = fraction(ways[other][axis]) - fraction(ways[name][axis])
            if way:
                times |= {(one - two) / way for one, two in product(ends(bodies[name], axis), ends(bodies[other], axis))}
    times = sorted(times)
    # Each time at which two cuts meet, and the stretches between them, told by a time within.
    spots = [(times[0] - 1, (None, times[0]))] if times else [(Fraction(0), (None, None))]
    for k, time in enumerate(times):
        after = times[k + 1] if k + 1 < len(times) else None
        spots.append((time, (time, time)))
        spots.append((time + 1 if after is None else (time + after) / 2, (time, after)))
    found = []
    for time, (low, high) in spots:
        if not overlaps(at_time(bodies, ways, time)):
            if found and low is not None and found[-1][1] == low:
                found[-1] = (found[-1][0], high)
            else:
                found.append((low, high))
    return [tuple(one if one is None else as_ratio(one) for one in pair) for pair in found]


class Strokes(unittest.TestCase):
    def check(self, bodies, ways, *wanted):
        before = copy.deepcopy((bodies, ways))
        found = strokes(bodies, ways)
        self.assertEqual(found, slow_strokes(bodies, ways))
        if wanted:
            self.assertEqual(found, bounds(*wanted))
        for low, high in found:
            for time in {one for one in (low, high) if one is not None}:
                self.assertIs(are_clear(bodies, ways, time), True)
                self.assertEqual(stroke_at(bodies, ways, time), (low, high))
        for (_, high), (low, _) in zip(found, found[1:]):
            between = as_ratio((fraction(high) + fraction(low)) / 2)
            self.assertIs(are_clear(bodies, ways, between), False)
            with self.assertRaises(NotThere):
                stroke_at(bodies, ways, between)
        self.assertEqual((bodies, ways), before)
        return found

    def test_never_and_always(self):
        aside = {"a": BOX, "b": moved(BOX, triple(0, 5, 0))}
        self.check(aside, {"a": STILL, "b": triple(1, 0, 0)}, (None, None))
        self.check(aside, {"a": STILL, "b": STILL}, (None, None))
        over = {"a": BOX, "b": moved(BOX, triple(1, 1, 1))}
        self.assertEqual(self.check(over, {"a": STILL, "b": STILL}), [])
        # Two bodies with the same way overlap at all times, or never.
        way = triple(1, Fraction(-1, 3), 2)
        self.assertEqual(self.check(over, {"a": way, "b": way}), [])
        self.check(aside, {"a": way, "b": way}, (None, None))
        self.check({"a": BOX, "b": moved(BOX, triple(2, 0, 0))}, {"a": way, "b": way}, (None, None))
        self.assertIs(are_clear(over, {"a": way, "b": way}, ratio(7)), False)
        with self.assertRaises(NotThere):
            stroke_at(over, {"a": way, "b": way}, ratio(7))

    def test_between(self):
        bodies = {"a": BOX, "b": moved(BOX, triple(5, 0, 0))}
        self.check(bodies, {"a": STILL, "b": triple(1, 0, 0)}, (None, -7), (-3, None))
        self.check(bodies, {"a": STILL, "b": triple(-2, 0, 0)}, (None, Fraction(3, 2)), (Fraction(7, 2), None))
        self.check(bodies, {"a": triple(1, 0, 0), "b": STILL}, (None, 3), (7, None))
        self.check(bodies, {"a": triple(1, 0, 0), "b": triple(-1, 0, 0)}, (None, Fraction(3, 2)), (Fraction(7, 2), None))
        for axis in range(3):
            way = [0, 0, 0]
            way[axis] = 1
            self.check({"a": BOX, "b": BOX}, {"a": STILL, "b": triple(*way)}, (None, -2), (2, None))

    def test_across(self):
        # Along a slanting way both axes have to overlap at once.
        bodies = {"a": BOX, "b": moved(BOX, triple(-4, -6, 0))}
        self.check(bodies, {"a": STILL, "b": triple(1, 1, 0)}, (None, 4), (6, None))
        self.check(bodies, {"a": STILL, "b": triple(1, 2, 0)}, (None, 2), (4, None))
        # At the time 4 the boxes just touch at an edge.
        self.check({"a": BOX, "b": moved(BOX, triple(-2, 6, 0))}, {"a": STILL, "b": triple(1, -1, 0)}, (None, None))

    def test_up_to_a_time_and_from_a_time_on(self):
        # A long bar begins to overlap late, or it does so early; it takes long either way.
        long = block((0, 0, 0), (100, 2, 2))
        self.check({"a": BOX, "b": moved(long, triple(5, 0, 0))}, {"a": STILL, "b": triple(-1, 0, 0)},
                   (None, 3), (105, None))
        self.check({"a": BOX, "b": moved(long, triple(-105, 0, 0))}, {"a": STILL, "b": triple(1, 0, 0)},
                   (None, 5), (107, None))
        # Two of three bodies overlap at all times, so the third one changes nothing.
        self.assertEqual(self.check({"a": BOX, "b": BOX, "c": moved(BOX, triple(9, 9, 9))},
                                    {"a": STILL, "b": STILL, "c": triple(-1, -1, -1)}), [])

    def test_low_and_high_are_equal(self):
        # A fork with a slot just as wide as the peg that falls past it sideways.
        gate = joined(block((-5, 0, 0), (0, 1, 1)), block((1, 0, 0), (6, 1, 1)))
        peg = block((0, 0, 0), (1, 1, 1), "g")
        self.check({"gate": gate, "peg": peg}, {"gate": STILL, "peg": triple(1, 0, 0)}, (None, -6), (0, 0), (6, None))
        self.assertIs(are_clear({"gate": gate, "peg": peg}, {"gate": STILL, "peg": triple(1, 0, 0)}, ratio(0)), True)
        self.assertEqual(stroke_at({"gate": gate, "peg": peg}, {"gate": STILL, "peg": triple(1, 0, 0)}, ratio(0)),
                         (ratio(0), ratio(0)))
        self.assertIs(are_clear({"gate": gate, "peg": peg}, {"gate": STILL, "peg": triple(1, 0, 0)}, ratio(1, 9)), False)

    def test_boxes_of_one_body_leave_no_gap(self):
        # The bar is divided by its labels; where one box ends the next one begins.
        bar = joined(joined(block((0, 0, 0), (1, 1, 1)), block((1, 0, 0), (2, 1, 1), "g")), block((2, 0, 0), (3, 2, 1), "h"))
        self.assertGreater(len(bar[3]), 2)
        peg = block((0, 0, 0), (1, 1, 1), "p")
        self.check({"bar": bar, "peg": peg}, {"bar": STILL, "peg": triple(1, 0, 0)}, (None, -1), (3, None))
        thin = block((0, 0, 0), ((1, 9), 1, 1), "p")
        self.check({"bar": bar, "thin": thin}, {"bar": STILL, "thin": triple(1, 0, 0)}, (None, Fraction(-1, 9)), (3, None))

    def test_several_gaps(self):
        comb = grid_body([(0, 0, 0), (2, 0, 0), (6, 0, 0)])
        peg = block((0, 0, 0), ((1, 2), 1, 1), "p")
        self.check({"comb": comb, "peg": peg}, {"comb": STILL, "peg": triple(1, 0, 0)},
                   (None, Fraction(-1, 2)), (1, Fraction(3, 2)), (3, Fraction(11, 2)), (7, None))

    def test_three_bodies(self):
        bodies = {"a": BOX, "b": moved(BOX, triple(10, 0, 0)), "c": moved(BOX, triple(0, 10, 0))}
        # b passes a from 8 to 12, c passes a from 4 to 6, and b and c pass each other.
        self.check(bodies, {"a": STILL, "b": triple(-1, 0, 0), "c": triple(0, -2, 0)}, (None, 4), (6, 8), (12, None))
        self.check(bodies, {"a": STILL, "b": triple(-1, 0, 0), "c": triple(1, -1, 0)})
        self.check(bodies, {"a": STILL, "b": triple(0, 1, 0), "c": triple(1, 0, 0)}, (None, 8), (12, None))

    def test_one_body_and_none(self):
        self.check({}, {}, (None, None))
        self.check({"a": BOX}, {"a": triple(1, 2, 3)}, (None, None))
        self.assertIs(are_clear({}, {}, ratio(3)), True)
        self.assertEqual(stroke_at({"a": BOX}, {"a": STILL}, ratio(3)), (None, None))

    def test_random_bodies(self):
        chance = random.Random(130)
        lengths = {}
        for _ in range(40):
            names = chance.sample("abc", chance.choice([2, 2, 3]))
            bodies = {name: moved(random_body(chance, name, 2), triple(*[chance.randint(-4, 4) for _ in range(3)]))
                      for name in names}
            ways = {name: triple(*[Fraction(chance.choice([0, 0, 1, -1, 2]), chance.choice([1, 1, 3])) for _ in range(3)])
                    for name in names}
            if not any(body == EMPTY for body in bodies.values()):
                lengths[len(self.check(bodies, ways))] = True
        self.assertGreater(len(lengths), 2)

    def test_are_clear_against_moved_bodies(self):
        chance = random.Random(131)
        answers = {}
        for _ in range(60):
            bodies = {name: random_body(chance, name, 2) for name in "ab"}
            if EMPTY in bodies.values():
                continue
            ways = {name: triple(*[chance.randint(-2, 2) for _ in range(3)]) for name in "ab"}
            time = Fraction(chance.randint(-6, 6), chance.choice([1, 2, 3]))
            wanted = not overlaps(at_time(bodies, ways, time))
            answers[wanted] = True
            self.assertIs(are_clear(bodies, ways, as_ratio(time)), wanted)
            if wanted:
                low, high = stroke_at(bodies, ways, as_ratio(time))
                self.assertTrue((low is None or fraction(low) <= time) and (high is None or time <= fraction(high)))
                self.assertIn((low, high), strokes(bodies, ways))
            else:
                with self.assertRaises(NotThere):
                    stroke_at(bodies, ways, as_ratio(time))
        self.assertEqual(len(answers), 2)

    def test_answers_are_new(self):
        bodies, ways = {"a": BOX, "b": BOX}, {"a": STILL, "b": triple(1, 0, 0)}
        strokes(bodies, ways).clear()
        self.assertEqual(len(strokes(bodies, ways)), 2)

    def test_not_right(self):
        for bodies, ways in (({"a": BOX}, {}), ({}, {"a": STILL}), ({"a": BOX}, {"b": STILL}),
                             ({"a": BOX, "b": BOX}, {"a": STILL}), ({"a": EMPTY}, {"a": STILL}),
                             ({"a": BOX, "b": EMPTY}, {"a": STILL, "b": STILL})):
            for ask in (lambda: strokes(bodies, ways), lambda: are_clear(bodies, ways, ratio(0)),
                        lambda: stroke_at(bodies, ways, ratio(0))):
                self.assertRaises(NotRight, ask)


if __name__ == "__main__":
    unittest.main()
