import copy
import random
import unittest
from itertools import combinations

from mitrehouse.errors import NotRight, NotThere, TooLarge
from mitrehouse.linear import follows, frame, is_clash, least_conflicts, made, solve
from mitrehouse.ratios import minus, opposite, plus, ratio, times
from mitrehouse.settling import (accepts, conflicts, depends, held_points, needless_ones, paper_of, settle)
from mitrehouse.sketches import is_shape, is_sketch, owners, sketch_rows, unknowns_of
from samples import ONE, TWO, ZERO, box_sketch, num

NOUGHT = (0, 1)
W = ("of", "w")
FIX = ("fix", "a", ZERO, ZERO)
LEVEL = ("level", "a", "b")


def of(points, *constraints):
    return (tuple(points), constraints)


def place(x, y):
    return (ratio(x), ratio(y))


# b moves on a level line through a, c on a plumb line above b.
ROD = of("abc", FIX, LEVEL, ("across", "a", "b", num(3)), ("plumb", "b", "c"))
CASES = {
    "rows": of("ab", FIX, LEVEL, ("up", "a", "b", ONE)),
    "one": of("ab", FIX, LEVEL, ("across", "a", "b", num(3))),
    "one and spans": of("ab", FIX, LEVEL, ("across", "a", "b", num(3)), ("span", "a", "b", num(9))),
    "span": of("ab", FIX, LEVEL, ("span", "a", "b", num(9)), ("across", "a", "b", num(3)), ("span", "a", "b", num(8)),
               ("span", "a", "b", num(7))),
    "free": ROD,
    "free with spans": of("abc", *ROD[1][:3], ("plumb", "b", "c"), ("span", "a", "b", num(9))),
    "loose": of("abc", FIX, LEVEL, ("span", "a", "c", num(9))),
    "span on the line": of("abc", *ROD[1], ("span", "a", "c", num(25)), ("span", "a", "b", num(9)),
                           ("span", "a", "b", num(8)), ("span", "a", "b", num(7))),
    "roots": of("abc", ("span", "a", "b", num(9)), *ROD[1], ("span", "a", "c", num(10)), ("span", "a", "c", num(11))),
    "no common roots": of("abc", *ROD[1], ("span", "a", "c", num(25)), ("span", "a", "c", num(34))),
    "one of a double zero": of("abc", *ROD[1], ("span", "a", "c", num(9))),
    "one of two spans": of("abcd", *ROD[1], ("fix", "d", ZERO, ONE), ("span", "a", "c", num(25)),
                           ("span", "d", "c", num(18))),
    "some": of("abc", *ROD[1], ("span", "a", "c", num(25))),
    "some with another span": of("abc", *ROD[1], ("span", "a", "b", num(9)), ("span", "a", "c", num(25)),
                                 ("span", "c", "a", num(25))),
}


class Settling(unittest.TestCase):
    def told(self, name):
        return settle(CASES[name], {})

    def test_all_are_sketches(self):
        for name, sketch in CASES.items():
            self.assertTrue(is_sketch(sketch), name)

    def test_rows(self):
        told = self.told("rows")
        self.assertEqual((told[:2], len(told)), (("none", "rows"), 3))
        self.assertTrue(is_clash(made(sketch_rows(CASES["rows"], {}), told[2])))
        # A clash of the rows goes ahead of a span that is not true.
        self.assertEqual(settle(of("ab", *CASES["rows"][1], ("span", "a", "b", num(-1))), {})[:2], ("none", "rows"))

    def test_one(self):
        shape = {"a": place(0, 0), "b": place(3, 0)}
        self.assertEqual(self.told("one"), ("one", shape))
        self.assertEqual(self.told("one and spans"), ("one", shape))

    def test_first_span_that_is_not_true(self):
        self.assertEqual(self.told("span"), ("none", "span", 4))

    def test_free(self):
        shape = {"a": place(0, 0), "b": place(3, 0), "c": place(3, 0)}
        way = {"a": place(0, 0), "b": place(0, 0), "c": place(0, 1)}
        self.assertEqual(self.told("free"), ("free", shape, [way]))
        self.assertEqual(self.told("free with spans"), ("free", shape, [way]))

    def test_several_directions(self):
        told = settle(of("ab"), {})
        self.assertEqual(told[:2], ("free", {"a": place(0, 0), "b": place(0, 0)}))
        self.assertEqual(told[2], [{"a": place(1, 0), "b": place(0, 0)}, {"a": place(0, 1), "b": place(0, 0)},
                                   {"a": place(0, 0), "b": place(1, 0)}, {"a": place(0, 0), "b": place(0, 1)}])

    def test_loose(self):
        told = self.told("loose")
        self.assertEqual(told, ("loose",) + settle(of("abc", FIX, LEVEL), {})[1:])
        self.assertEqual((told[0], len(told[2])), ("loose", 3))

    def test_span_on_the_line(self):
        self.assertEqual(self.told("span on the line"), ("none", "span", 6))

    def test_roots(self):
        self.assertEqual(self.told("roots"), ("none", "roots", 5))
        self.assertEqual(self.told("no common roots"), ("none", "roots", 4))

    def test_one_on_the_line(self):
        self.assertEqual(self.told("one of a double zero"),
                         ("one", {"a": place(0, 0), "b": place(3, 0), "c": place(3, 0)}))
        self.assertEqual(self.told("one of two spans"),
                         ("one", {"a": place(0, 0), "b": place(3, 0), "c": place(3, 4), "d": place(0, 1)}))

    def test_two_shapes_in_their_order(self):
        for name in ("some", "some with another span"):
            self.assertEqual(self.told(name), ("some", [{"a": place(0, 0), "b": place(3, 0), "c": place(3, -4)},
                                                        {"a": place(0, 0), "b": place(3, 0), "c": place(3, 4)}]))

    def test_the_order_goes_by_the_first_direction(self):
        # c is free along y, and b follows it the other way round.
        sketch = of("abc", FIX, ("plumb", "a", "b"), ("plumb", "a", "c"), ("high", "a", "b", "a", "c", (-2, 1)),
                    ("span", "a", "c", num(9)))
        self.assertEqual([shape["c"] for shape in settle(sketch, {})[1]], [place(0, -3), place(0, 3)])
        self.assertEqual([shape["b"] for shape in settle(sketch, {})[1]], [place(0, 6), place(0, -6)])

    def test_shapes_are_shapes(self):
        for name, sketch in CASES.items():
            told = settle(sketch, {})
            for shape in {"one": told[1:2], "some": told[1], "free": told[1:2]}.get(told[0], []):
                self.assertTrue(is_shape(sketch, {}, shape), name)

    def test_numbers(self):
        sketch = of("ab", FIX, LEVEL, ("across", "a", "b", W), ("span", "a", "b", ("of", "v")))
        self.assertEqual(settle(sketch, {"v": (9, 1), "w": (-3, 1)})[0], "one")
        self.assertEqual(settle(sketch, {"v": (8, 1), "w": (-3, 1)}), ("none", "span", 3))

    def test_arguments_stay_and_answers_are_new(self):
        numbers = {"w": (3, 1)}
        for name, sketch in CASES.items():
            told, paper = settle(sketch, numbers), paper_of(sketch, numbers)
            kept = copy.deepcopy((told, paper))
            self.assertTrue(accepts(sketch, numbers, told, paper))
            self.assertEqual((told, paper), kept, name)
            for part in told[1:]:
                if isinstance(part, (dict, list)):
                    part.clear()
            if paper:
                paper[0][1].clear()
            self.assertEqual((settle(sketch, numbers), paper_of(sketch, numbers)), kept, name)
        self.assertEqual(numbers, {"w": (3, 1)})


class Papers(unittest.TestCase):
    def test_each_is_accepted(self):
        for name, sketch in CASES.items():
            paper = paper_of(sketch, {})
            self.assertEqual(paper is None, name == "rows", name)
            self.assertIs(accepts(sketch, {}, settle(sketch, {}), paper), True, name)

    def test_another_frame_is_accepted(self):
        sketch = of("ab", FIX, ("fix", "b", ONE, ONE), ("fix", "b", ONE, ONE))
        paper = paper_of(sketch, {})
        other = [(lead, factors[:2] + factors[4:] + factors[2:4]) for lead, factors in paper]
        self.assertNotEqual(paper, other)
        self.assertIs(accepts(sketch, {}, settle(sketch, {}), other), True)

    def test_a_paper_that_is_changed_in_one_place(self):
        for name, sketch in CASES.items():
            told, paper = settle(sketch, {}), paper_of(sketch, {})
            if paper is None:
                continue
            self.assertIs(accepts(sketch, {}, told, paper[1:]), False, name)
            self.assertIs(accepts(sketch, {}, told, paper + paper[-1:]), False, name)
            self.assertIs(accepts(sketch, {}, told, paper[::-1]), False, name)
            for k, (lead, factors) in enumerate(paper):
                for changed in ((lead + "x", factors), (lead, factors[1:]), (lead, factors + [NOUGHT]),
                                (lead, [plus(factors[0], (1, 2))] + factors[1:])):
                    self.assertIs(accepts(sketch, {}, told, paper[:k] + [changed] + paper[k + 1:]), False, name)

    def test_none_and_frames_exchanged(self):
        for name, sketch in CASES.items():
            told, paper = settle(sketch, {}), paper_of(sketch, {})
            if paper is None:
                for wrong in ([], [("a.x", [(1, 1)] + [NOUGHT] * 3)]):
                    self.assertIs(accepts(sketch, {}, told, wrong), False, name)
            else:
                self.assertIs(accepts(sketch, {}, told, None), False, name)

    def test_a_told_thing_that_is_changed(self):
        for name, sketch in CASES.items():
            told, paper = settle(sketch, {}), paper_of(sketch, {})
            for wrong in self.changed(told):
                self.assertIs(accepts(sketch, {}, wrong, paper), False, (name, wrong))
                self.assertIs(accepts(sketch, {}, wrong, None), False, (name, wrong))

    def changed(self, told):
        """Returns what is told, changed in one place in many ways."""
        found = [(word,) + told[1:] for word in ("none", "one", "some", "free", "loose", "what") if word != told[0]]
        for k, part in enumerate(told):
            if isinstance(part, int):
                found += [told[:k] + (part + by,) + told[k + 1:] for by in (-1, 1)]
            if k == 1 and isinstance(part, str):
                found += [told[:1] + (word,) + told[2:] for word in ("rows", "span", "roots", "?") if word != part]
            if isinstance(part, dict):
                found += [told[:k] + (shape,) + told[k + 1:] for shape in self.changed_shapes(part)]
            if isinstance(part, list):
                found += [told[:k] + (other,) + told[k + 1:] for other in self.changed_lists(part)]
        return found

    def changed_shapes(self, shape):
        point = sorted(shape)[-1]
        x, y = shape[point]
        return [{**shape, point: (plus(x, (1, 3)), y)}, {**shape, point: (x, plus(y, (1, 3)))},
                {**shape, "zz": (x, y)}, {one: shape[one] for one in shape if one != point}, {}]

    def changed_lists(self, part):
        found = [[], part[1:], part + part[:1]]
        if isinstance(part[0], dict):
            found += [[shape] + part[1:] for shape in self.changed_shapes(part[0])]
            found += [part[::-1]] if len(part) > 1 else []
        else:
            # Factors twice as large make a clash, too; those of rows without it make none.
            found += [[NOUGHT] * len(part), [opposite(one) if k else plus(one, (1, 1)) for k, one in enumerate(part)]]
        return [one for one in found if one != part]

    def test_other_factors_of_a_clash(self):
        sketch = CASES["rows"]
        told = settle(sketch, {})
        twice = [times((2, 1), one) for one in told[2]]
        self.assertIs(accepts(sketch, {}, ("none", "rows", twice), None), True)
        self.assertIs(accepts(sketch, {}, ("none", "rows", twice[1:]), None), False)
        self.assertIs(accepts(sketch, {}, ("none", "rows", twice + [NOUGHT]), None), False)
        self.assertIs(accepts(sketch, {}, ("none", "rows", []), None), False)
        self.assertIs(accepts(sketch, {}, ("none", "rows", 2), None), False)
        self.assertIs(accepts(sketch, {}, ("none", "rows", [{}] * len(twice)), None), False)
        self.assertIs(accepts(sketch, {}, ("none", "rows"), None), False)
        self.assertIs(accepts(sketch, {}, ("none", "rows", twice, twice), None), False)
        self.assertIs(accepts(of("a", FIX), {}, ("none", "rows", [(1, 1), (1, 1)]), None), False)

    def test_by_random_sketches(self):
        chance = random.Random(33)
        words = {}
        for _ in range(300):
            sketch = random_sketch(chance)
            told, paper = settle(sketch, {}), paper_of(sketch, {})
            words[told[0]] = words.get(told[0], 0) + 1
            self.assertTrue(accepts(sketch, {}, told, paper))
            rows = sketch_rows(sketch, {})
            self.assertEqual(told[:2] == ("none", "rows"), solve(rows, unknowns_of(sketch))[0] == "none")
            for shape in [told[1]] if told[0] == "one" else told[1] if told[0] == "some" else []:
                self.assertTrue(is_shape(sketch, {}, shape))
        self.assertEqual(sorted(words), ["free", "loose", "none", "one", "some"])


def random_sketch(chance):
    """Returns a sketch of a few points, most of them fixed or led to by others."""
    points = "abcd"[:chance.randint(2, 4)]
    found = []
    for _ in range(chance.randint(1, 2 * len(points))):
        p, q = chance.sample(points, 2)
        r, s = chance.sample(points, 2)
        length = num(chance.choice([0, 1, 2, 3]))
        choices = [("fix", p, length, num(chance.choice([0, 4]))), ("level", p, q), ("plumb", p, q),
                   ("across", p, q, length), ("up", p, q, num(4)), ("even", p, q, r, s), ("turn", p, q, r, s),
                   ("span", p, q, num(chance.choice([1, 9, 16, 25]))),
                   ("wide", p, q, r, s, ratio(chance.randint(-1, 2))), ("high", p, q, r, s, ratio(1, 2))]
        found.append(chance.choice(choices))
    return (tuple(points), tuple(found))


class Depending(unittest.TestCase):
    def test_growths(self):
        sketch = box_sketch(W, ("minus", ("times", (1, 2), W), ONE))
        self.assertEqual(depends(sketch, {"w": (3, 1)}, "w"),
                         {"a": place(0, 0), "b": place(1, 0), "c": (ratio(1), ratio(1, 2)),
                          "d": (ratio(0), ratio(1, 2))})

    def test_growths_are_those_of_the_shapes(self):
        sketch = box_sketch(("plus", W, ("of", "v")), ("times", (-3, 4), ("of", "v")))
        numbers = {"v": (2, 1), "w": (5, 3)}
        for name in ("v", "w"):
            grown = depends(sketch, numbers, name)
            start = settle(sketch, numbers)[1]
            end = settle(sketch, {**numbers, name: plus(numbers[name], (7, 2))})[1]
            for point in sketch[0]:
                for k in (0, 1):
                    self.assertEqual(minus(end[point][k], start[point][k]), times((7, 2), grown[point][k]))

    def test_a_number_that_is_not_named(self):
        nothing = {point: place(0, 0) for point in "abcd"}
        sketch = box_sketch(W, TWO)
        self.assertEqual(depends(sketch, {"w": (3, 1), "u": (1, 1)}, "u"), nothing)
        self.assertEqual(depends(sketch, {"w": (3, 1)}, "u"), nothing)

    def test_constraints_that_agree_for_one_worth_alone(self):
        sketch = of("ab", FIX, LEVEL, ("across", "a", "b", W), ("across", "a", "b", num(3)))
        self.assertEqual(settle(sketch, {"w": (3, 1)})[0], "one")
        with self.assertRaises(NotThere):
            depends(sketch, {"w": (3, 1)}, "w")
        self.assertEqual(depends(sketch, {"w": (3, 1)}, "v"), {"a": place(0, 0), "b": place(0, 0)})
        twice = of("ab", FIX, LEVEL, ("across", "a", "b", W), ("across", "b", "a", ("times", (-1, 1), W)))
        self.assertEqual(depends(twice, {"w": (3, 1)}, "w"), {"a": place(0, 0), "b": place(1, 0)})

    def test_a_number_that_cancels(self):
        sketch = of("ab", FIX, LEVEL, ("across", "a", "b", ("minus", W, W)))
        self.assertEqual(depends(sketch, {"w": (3, 1)}, "w"), {"a": place(0, 0), "b": place(0, 0)})

    def test_span_freedom_and_clash(self):
        for sketch in (of("ab", FIX, LEVEL, ("across", "a", "b", W), ("span", "a", "b", num(9))),
                       of("ab", FIX, LEVEL, ("across", "a", "b", W), ("plumb", "a", "b")),
                       of("ab", FIX, ("across", "a", "b", W))):
            with self.assertRaises(NotThere):
                depends(sketch, {"w": (3, 1)}, "w")
            with self.assertRaises(NotThere):
                depends(sketch, {"w": (3, 1)}, "none")


class Needless(unittest.TestCase):
    def test_needless_ones(self):
        sketch = of("abc", FIX, ("span", "a", "b", ONE), ("fix", "b", ONE, ZERO), LEVEL, ("plumb", "a", "b"),
                    ("even", "a", "c", "a", "c"), ("level", "a", "c"), ("level", "b", "c"), ("span", "a", "b", ONE))
        # With the fifth one the rows clash, so what asks for a and b alone follows; c.y is told by the seventh.
        self.assertEqual(needless_ones(sketch, {}), [3, 5, 7])

    def test_both_rows_have_to_follow(self):
        sketch = of("ab", ("fix", "a", ZERO, ZERO), LEVEL, ("fix", "b", ONE, ZERO), ("fix", "b", ONE, ZERO))
        self.assertEqual(needless_ones(sketch, {}), [3])

    def test_own_rows_do_not_count(self):
        # Both rows of turn are those of the gap from a to b, which is to be its own turned one.
        sketch = of("ab", ("turn", "a", "b", "a", "b"))
        self.assertEqual(needless_ones(sketch, {}), [])

    def test_against_follows(self):
        chance = random.Random(36)
        for _ in range(60):
            sketch = random_sketch(chance)
            rows, of_rows = sketch_rows(sketch, {}), owners(sketch)
            wanted = []
            for k in sorted(set(of_rows)):
                ahead = [row for row, owner in zip(rows, of_rows) if owner < k]
                if all(follows(ahead, row) is not None for row, owner in zip(rows, of_rows) if owner == k):
                    wanted.append(k)
            self.assertEqual(needless_ones(sketch, {}), wanted)


class Conflicts(unittest.TestCase):
    def test_least_ones_in_their_order(self):
        sketch = of("ab", ("span", "a", "b", ONE), FIX, ("fix", "b", ONE, ONE), LEVEL, ("plumb", "a", "b"),
                    ("fix", "b", TWO, ONE), ("across", "a", "b", num(3)))
        self.assertEqual(conflicts(sketch, {}), [(2, 5), (4, 6), (1, 2, 3), (1, 2, 4), (1, 2, 6), (1, 3, 5), (1, 4, 5),
                                                 (1, 5, 6)])
        self.assertEqual(conflicts(of("ab", FIX), {}), [])

    def test_ten_and_eleven(self):
        ten = [("across", "a", "b", num(k)) for k in range(10)]
        span = ("span", "a", "b", ONE)
        sketch = of("ab", span, *ten, span, span)
        self.assertEqual(conflicts(sketch, {}), [(i + 1, j + 1) for i, j in combinations(range(10), 2)])
        with self.assertRaises(TooLarge):
            conflicts(of("ab", span, *ten, LEVEL), {})

    def test_against_all_sets(self):
        chance = random.Random(37)
        for _ in range(40):
            sketch = random_sketch(chance)
            linear = [k for k, constraint in enumerate(sketch[1]) if constraint[0] != "span"]
            found = []
            for size in range(1, len(linear) + 1):
                for chosen in combinations(linear, size):
                    part = (sketch[0], tuple(sketch[1][k] for k in chosen))
                    if settle(part, {})[:2] == ("none", "rows") and not any(set(one) <= set(chosen) for one in found):
                        found.append(chosen)
            self.assertEqual(conflicts(sketch, {}), found)

    def test_those_of_rows(self):
        sketch = of("ab", LEVEL, ("up", "a", "b", ONE), ("up", "a", "b", TWO))
        self.assertEqual(conflicts(sketch, {}), least_conflicts(sketch_rows(sketch, {})))


class Held(unittest.TestCase):
    def test_held_points(self):
        self.assertEqual(held_points(ROD, {}), ["a", "b"])
        self.assertEqual(held_points(CASES["one"], {}), ["a", "b"])
        self.assertEqual(held_points(of("ab"), {}), [])
        # Spans are left out.
        self.assertEqual(held_points(CASES["some"], {}), ["a", "b"])
        self.assertEqual(held_points(CASES["span"], {}), ["a", "b"])
        # b moves along one of both axes alone.
        self.assertEqual(held_points(of("ab", FIX, LEVEL), {}), ["a"])
        self.assertEqual(held_points(of("ab", FIX, ("plumb", "a", "b")), {}), ["a"])
        self.assertEqual(held_points(of("abc", FIX, ("wide", "a", "b", "a", "c", (1, 1))), {}), ["a"])
        # b is not told by itself, and neither is a; but the gap between them is.
        self.assertEqual(held_points(of("ab", ("across", "a", "b", ONE), ("up", "a", "b", ONE)), {}), [])

    def test_clash(self):
        with self.assertRaises(NotThere):
            held_points(CASES["rows"], {})


class Errors(unittest.TestCase):
    def asked(self, sketch, numbers):
        return [lambda: settle(sketch, numbers), lambda: paper_of(sketch, numbers),
                lambda: accepts(sketch, numbers, ("one", {}), []), lambda: depends(sketch, numbers, "w"),
                lambda: needless_ones(sketch, numbers), lambda: conflicts(sketch, numbers),
                lambda: held_points(sketch, numbers)]

    def test_no_sketch(self):
        wrong = of("ab", ("level", "a", "a"), ("across", "a", "b", W), *[LEVEL] * 11)
        for sketch in (wrong, None, ("a", "b"), (("b", "a"), ())):
            for ask in self.asked(sketch, {}):
                self.assertRaises(NotRight, ask)

    def test_a_number_is_not_there(self):
        clash = (("up", "a", "b", ONE),) + (LEVEL,) * 11
        for constraint in (("across", "a", "b", W), ("span", "a", "b", W),
                           ("span", "a", "b", ("times", NOUGHT, W))):
            for ask in self.asked(of("ab", *clash, constraint), {"v": (1, 1)}):
                self.assertRaises(NotThere, ask)
            self.assertRaises(TooLarge, conflicts, of("ab", *clash, constraint), {"w": (1, 1)})


if __name__ == "__main__":
    unittest.main()
