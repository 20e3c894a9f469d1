import unittest

from mitrehouse.errors import NotThere
from mitrehouse.sketches import is_shape, is_sketch, numbers_of, owners, sketch_rows, unknowns_of
from samples import ONE, ZERO, num

POINTS = ("a", "b", "c", "d", "m")
W = ("of", "w")
EACH = (
    ("fix", "a", ONE, W), ("level", "a", "b"), ("plumb", "a", "b"), ("across", "a", "b", W), ("up", "a", "b", W),
    ("even", "a", "b", "c", "d"), ("turn", "a", "b", "c", "d"), ("part", "m", "a", "b", (2, 3)),
    ("wide", "a", "b", "c", "d", (2, 3)), ("high", "a", "b", "c", "d", (2, 3)), ("span", "a", "b", W),
)


def of(*constraints):
    return (POINTS, constraints)


class Sketches(unittest.TestCase):
    def test_each_constraint(self):
        for constraint in EACH:
            self.assertIs(is_sketch(of(constraint)), True, constraint)
        self.assertIs(is_sketch(of(*EACH)), True)
        self.assertIs(is_sketch((("a",), ())), True)

    def test_too_few_and_too_many_parts(self):
        for constraint in EACH:
            self.assertIs(is_sketch(of(constraint[:-1])), False, constraint)
            self.assertIs(is_sketch(of(constraint + (ONE,))), False, constraint)
            self.assertIs(is_sketch(of(list(constraint))), False, constraint)
            self.assertIs(is_sketch(of(("none",) + constraint[1:])), False, constraint)
            for word in (7, None, [constraint[0]], {}, (constraint[0],)):
                self.assertIs(is_sketch(of((word,) + constraint[1:])), False, constraint)

    def test_points_that_are_not_the_sketchs(self):
        for constraint in EACH:
            for k in range(1, len(constraint)):
                if isinstance(constraint[k], str):
                    for other in ("z", "", None, 1, ["a"], ONE):
                        changed = constraint[:k] + (other,) + constraint[k + 1:]
                        self.assertIs(is_sketch(of(changed)), False, changed)

    def test_lengths_and_ratios(self):
        for k, constraint in enumerate(EACH):
            for n in range(1, len(constraint)):
                if not isinstance(constraint[n], str):
                    for other in (None, 1, (2, 4), (True, 1), "a", ("num", (2, 4)), ("of", "W")):
                        changed = constraint[:n] + (other,) + constraint[n + 1:]
                        self.assertIs(is_sketch(of(changed)), False, changed)
        # A ratio is no length, and a length no ratio.
        for changed in (("across", "a", "b", (1, 1)), ("span", "a", "b", (1, 1)), ("fix", "a", ONE, (1, 1)),
                        ("part", "m", "a", "b", ONE), ("wide", "a", "b", "c", "d", ONE)):
            self.assertIs(is_sketch(of(changed)), False, changed)

    def test_two_equal_points_of_a_pair(self):
        for changed in (("level", "a", "a"), ("plumb", "b", "b"), ("across", "a", "a", W), ("up", "a", "a", W),
                        ("span", "c", "c", W), ("even", "a", "a", "c", "d"), ("even", "a", "b", "c", "c"),
                        ("turn", "a", "a", "c", "d"), ("turn", "a", "b", "d", "d"), ("wide", "a", "a", "c", "d", (1, 1)),
                        ("wide", "a", "b", "c", "c", (1, 1)), ("high", "a", "a", "c", "d", (1, 1)),
                        ("high", "a", "b", "c", "c", (1, 1)), ("part", "m", "a", "a", (1, 1)),
                        ("part", "a", "a", "b", (1, 1)), ("part", "b", "a", "b", (1, 1))):
            self.assertIs(is_sketch(of(changed)), False, changed)
        for good in (("even", "a", "b", "a", "b"), ("even", "a", "b", "b", "a"), ("turn", "a", "b", "a", "c"),
                     ("wide", "a", "b", "a", "b", (2, 1))):
            self.assertIs(is_sketch(of(good)), True, good)

    def test_points(self):
        many = tuple("p" + chr(97 + k) for k in range(25))
        self.assertIs(is_sketch((many[:24], ())), True)
        self.assertIs(is_sketch((many, ())), False)
        for points in ((), ("b", "a"), ("a", "a"), ["a"], "a", ("A",), ("a", 1), (1,), ("abcdefghijklm",), None, (True,),
                       ("a", "1b")):
            self.assertIs(is_sketch((points, ())), False, points)
        self.assertIs(is_sketch((("abcdefghijkl",), ())), True)

    def test_constraints(self):
        self.assertIs(is_sketch(of(*[("level", "a", "b")] * 40)), True)
        self.assertIs(is_sketch(of(*[("level", "a", "b")] * 41)), False)
        for value in ((("a",), []), (("a",), None), (("a",),), (("a",), (), ()), [("a",), ()], None, 1, "a", (),
                      (("a",), ((),)), (("a",), (None,))):
            self.assertIs(is_sketch(value), False, value)

    def test_lengths_nested_too_deep(self):
        length = W
        for _ in range(7):
            length = ("times", (1, 1), length)
        self.assertIs(is_sketch(of(("across", "a", "b", length))), True)
        self.assertIs(is_sketch(of(("across", "a", "b", ("times", (1, 1), length)))), False)


class Rows(unittest.TestCase):
    def check(self, constraint, *rows):
        told = [(tuple(sorted((name, (worth, 1) if isinstance(worth, int) else worth)
                              for name, worth in terms.items())), constant) for terms, constant in rows]
        self.assertEqual(sketch_rows(of(constraint), {"w": (5, 1)}), told)

    def test_fix(self):
        self.check(("fix", "a", num(2), W), ({"a.x": 1}, (2, 1)), ({"a.y": 1}, (5, 1)))

    def test_level_and_plumb(self):
        self.check(("level", "a", "b"), ({"a.y": -1, "b.y": 1}, (0, 1)))
        self.check(("plumb", "b", "a"), ({"a.x": 1, "b.x": -1}, (0, 1)))

    def test_across_and_up(self):
        self.check(("across", "a", "b", W), ({"a.x": -1, "b.x": 1}, (5, 1)))
        self.check(("up", "b", "a", ("times", (-1, 2), W)), ({"a.y": 1, "b.y": -1}, (-5, 2)))

    def test_even(self):
        self.check(("even", "a", "b", "c", "d"), ({"a.x": -1, "b.x": 1, "c.x": 1, "d.x": -1}, (0, 1)),
                   ({"a.y": -1, "b.y": 1, "c.y": 1, "d.y": -1}, (0, 1)))
        self.check(("even", "a", "b", "b", "c"), ({"a.x": -1, "b.x": 2, "c.x": -1}, (0, 1)),
                   ({"a.y": -1, "b.y": 2, "c.y": -1}, (0, 1)))
        self.check(("even", "a", "b", "a", "b"), ({}, (0, 1)), ({}, (0, 1)))

    def test_turn(self):
        # The gap from c to d is (u, v), that from a to b (-v, u).
        self.check(("turn", "a", "b", "c", "d"), ({"a.x": -1, "b.x": 1, "c.y": -1, "d.y": 1}, (0, 1)),
                   ({"a.y": -1, "b.y": 1, "c.x": 1, "d.x": -1}, (0, 1)))

    def test_part(self):
        self.check(("part", "m", "a", "b", (2, 3)), ({"a.x": (-1, 3), "b.x": (-2, 3), "m.x": 1}, (0, 1)),
                   ({"a.y": (-1, 3), "b.y": (-2, 3), "m.y": 1}, (0, 1)))
        self.check(("part", "m", "a", "b", (0, 1)), ({"a.x": -1, "m.x": 1}, (0, 1)), ({"a.y": -1, "m.y": 1}, (0, 1)))

    def test_wide_and_high(self):
        self.check(("wide", "a", "b", "c", "d", (2, 3)),
                   ({"a.x": -1, "b.x": 1, "c.x": (2, 3), "d.x": (-2, 3)}, (0, 1)))
        self.check(("high", "a", "b", "c", "d", (2, 3)),
                   ({"a.y": -1, "b.y": 1, "c.y": (2, 3), "d.y": (-2, 3)}, (0, 1)))

    def test_span_has_none(self):
        self.check(("span", "a", "b", W))

    def test_order_and_owners(self):
        sketch = of(*EACH)
        self.assertEqual(owners(sketch), [0, 0, 1, 2, 3, 4, 5, 5, 6, 6, 7, 7, 8, 9])
        rows = sketch_rows(sketch, {"w": (5, 1)})
        self.assertEqual(rows, [row for constraint in EACH for row in sketch_rows(of(constraint), {"w": (5, 1)})])
        self.assertEqual(owners(of(EACH[10], EACH[0], EACH[10], EACH[1])), [1, 1, 3])

    def test_unknowns(self):
        self.assertEqual(unknowns_of((("a", "a1", "b"), ())), ["a.x", "a.y", "a1.x", "a1.y", "b.x", "b.y"])
        self.assertEqual(unknowns_of((("p0", "p1", "p10", "p2"), ())),
                         sorted(p + side for p in ("p0", "p1", "p10", "p2") for side in (".x", ".y")))

    def test_numbers(self):
        sketch = of(("fix", "a", ("of", "z"), ("plus", ("of", "b"), ("of", "z"))), ("span", "a", "b", ("of", "a")),
                    ("level", "a", "b"))
        self.assertEqual(numbers_of(sketch), ["a", "b", "z"])
        self.assertEqual(numbers_of(of()), [])

    def test_not_there(self):
        for constraint in (EACH[0], EACH[3], EACH[4]):
            with self.assertRaises(NotThere):
                sketch_rows(of(constraint), {"v": (1, 1)})


class Shapes(unittest.TestCase):
    def setUp(self):
        self.sketch = (("a", "b", "c"), (("fix", "a", ZERO, ZERO), ("level", "a", "b"), ("across", "a", "b", W),
                                         ("turn", "a", "c", "a", "b"), ("span", "b", "c", num(18))))
        self.shape = {"a": ((0, 1), (0, 1)), "b": ((3, 1), (0, 1)), "c": ((0, 1), (3, 1))}

    def test_a_shape(self):
        self.assertIs(is_shape(self.sketch, {"w": (3, 1)}, self.shape), True)

    def test_none(self):
        self.assertIs(is_shape(self.sketch, {"w": (2, 1)}, self.shape), False)
        for point in "abc":
            for k in (0, 1):
                place = list(self.shape[point])
                place[k] = (7, 2)
                self.assertIs(is_shape(self.sketch, {"w": (3, 1)}, {**self.shape, point: tuple(place)}), False)
        self.assertIs(is_shape((self.sketch[0], self.sketch[1][:4]), {"w": (3, 1)}, self.shape), True)
        changed = (self.sketch[0], self.sketch[1][:4] + (("span", "b", "c", num(17)),))
        self.assertIs(is_shape(changed, {"w": (3, 1)}, self.shape), False)

    def test_other_points(self):
        less = {point: self.shape[point] for point in "ab"}
        for shape in (less, {}, {**self.shape, "d": ((0, 1), (0, 1))}):
            self.assertIs(is_shape(self.sketch, {"w": (3, 1)}, shape), False)

    def test_each_constraint_is_looked_at(self):
        shape = {"a": ((1, 1), (5, 1)), "b": ((4, 1), (9, 1)), "c": ((0, 1), (0, 1)), "d": ((4, 1), (-3, 1)),
                 "m": ((3, 1), (23, 3))}
        for constraint, holds in ((("turn", "a", "b", "c", "d"), True), (("turn", "c", "d", "a", "b"), False),
                                  (("part", "m", "a", "b", (2, 3)), True), (("part", "m", "b", "a", (2, 3)), False),
                                  (("span", "a", "b", num(25)), True), (("span", "a", "b", num(24)), False),
                                  (("wide", "a", "b", "c", "d", (3, 4)), True),
                                  (("wide", "c", "d", "a", "b", (3, 4)), False),
                                  (("high", "a", "b", "c", "d", (-4, 3)), True),
                                  (("high", "a", "b", "c", "d", (4, 3)), False),
                                  (("even", "a", "b", "c", "d"), False), (("even", "a", "b", "a", "b"), True),
                                  (("up", "a", "b", num(4)), True), (("up", "b", "a", num(4)), False),
                                  (("across", "a", "b", num(3)), True), (("across", "b", "a", num(3)), False),
                                  (("level", "a", "b"), False), (("plumb", "b", "d"), True),
                                  (("plumb", "a", "b"), False), (("fix", "a", num(1), num(5)), True),
                                  (("fix", "a", num(5), num(1)), False)):
            self.assertIs(is_shape(of(constraint), {}, shape), holds, constraint)


if __name__ == "__main__":
    unittest.main()
