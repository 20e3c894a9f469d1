import unittest
from fractions import Fraction

from mitrehouse.bodies import EMPTY, cut, extent, is_body, joined, kept, prism, volume
from mitrehouse.errors import NotRight, NotThere, Stops
from mitrehouse.faces import face_area, faces
from mitrehouse.histories import (behind, built, feature_numbers, is_feature, is_history, needs, plane_of, stages,
                                  stop_of)
from mitrehouse.outlines import region, side_edges
from mitrehouse.ratios import ratio
from samples import ONE, RINGS, TWO, ZERO, block, box_sketch, feature, num, on

W = ("of", "w")
BASE = feature("base")
# A cut of 1 by 1 by 1 into the upper face of the base.
HOLE = feature("hole", "cut", on("base", "high"), box_sketch(ONE, ONE), low=num(-1), high=ZERO)


def replaced(told, **parts):
    """Returns a feature with other parts."""
    words = ("name", "deed", "place", "sketch", "pick", "rings", "low", "high")
    return tuple(parts.get(word, part) for word, part in zip(words, told))


def history(*features, **numbers):
    return (tuple(sorted((name, ratio(worth)) for name, worth in numbers.items())), features)


def corners(body):
    return [tuple(Fraction(*one) for one in end) for end in extent(body)]


class Features(unittest.TestCase):
    def test_features(self):
        for value in (BASE, HOLE, replaced(BASE, deed="keep"), replaced(BASE, pick=10 ** 30),
                      replaced(BASE, place=("base", 0, W)), replaced(BASE, place=("base", 1, W)),
                      replaced(BASE, rings=((),)), replaced(BASE, rings=(("", "A B"),)),
                      replaced(BASE, rings=RINGS * 6), replaced(BASE, rings=(("a",) * 24,)),
                      replaced(BASE, place=("on", (("", ""), (("", ""),))))):
            self.assertIs(is_feature(value), True, value)

    def test_values_near_them(self):
        wrong = {
            "name": ("Base", "", "abcdefghijklm", 1, None),
            "deed": ("joined", "", None, 1, ["join"], ("join",)),
            "place": (("base", 3, ZERO), ("base", -1, ZERO), ("base", True, ZERO), ("base", 2), ("base", 2, ZERO, 0),
                      ("base", "2", ZERO), ("base", 2, (0, 1)), ("on", ("base", "high")), ("on",), ("off", 2, ZERO), ("off", (("base", "high"), ())), (2, (("base", "high"), ())),
                      ("on", (("base", "high"), ()), 0), ("on", (("base", "high"), [])), ["base", 2, ZERO], (), None,
                      ("on", (("b", "h"), (("z", ""), ("a", "")))), ("base", 2.0, ZERO)),
            "sketch": (None, (), (("b", "a"), ()), [BASE[3][0], BASE[3][1]], (BASE[3][0], list(BASE[3][1]))),
            "pick": (-1, True, False, "0", None, (0, 1), 0.0),
            "rings": ((), RINGS * 7, (("a",) * 25,), [("a", "b")], (["a", "b"],), (("a", 1),), None, ("abcd",), 1),
            "low": ((0, 1), None, ("num", (2, 4)), ("of", "W")),
            "high": ((0, 1), None, ("num", 1), ()),
        }
        for word, values in wrong.items():
            for value in values:
                self.assertIs(is_feature(replaced(BASE, **{word: value})), False, (word, value))
        for value in (None, 1, "base", (), BASE[:7], BASE + (0,), list(BASE), {}):
            self.assertIs(is_feature(value), False)

    def test_histories(self):
        for value in (((), ()), history(BASE), history(BASE, HOLE, w=1, v=2), history(w=3)):
            self.assertIs(is_history(value), True)
        for value in (None, 1, (), ((),), ((), (), ()), [(), ()], ([], ()), ((), []), ((), (None,)), ((), BASE),
                      ((("w", 1),), ()), ((("w", (2, 4)),), ()), ((("W", (1, 1)),), ()), ((["w", (1, 1)],), ()),
                      ((("w", (1, 1)), ("v", (1, 1))), ()), ((("w", (1, 1)), ("w", (1, 1))), ()),
                      ((("w", (True, 1)),), ()), ((("w", (1, 1), 0),), ()), ((("w",),), ()), ({"w": (1, 1)}, ()),
                      ((None,), ())):
            self.assertIs(is_history(value), False, value)

    def test_many_features(self):
        many = [replaced(BASE, name="f" + str(k)) for k in range(31)]
        self.assertIs(is_history(((), tuple(many[:30]))), True)
        self.assertIs(is_history(((), tuple(many))), False)

    def test_many_numbers(self):
        many = sorted(("n" + str(k), (k, 1)) for k in range(41))
        self.assertIs(is_history((tuple(many[:40]), ())), True)
        self.assertIs(is_history((tuple(many), ())), False)

    def test_two_features_of_one_name(self):
        self.assertIs(is_history(history(BASE, replaced(HOLE, name="base"))), False)

    def test_feature_numbers(self):
        self.assertEqual(feature_numbers(BASE), [])
        told = feature("f", "join", ("base", 0, ("of", "p")), box_sketch(W, ("plus", ("of", "s"), W)),
                       low=("of", "low"), high=("minus", ("of", "high"), ("of", "p")))
        self.assertEqual(feature_numbers(told), ["high", "low", "p", "s", "w"])
        spanned = (BASE[3][0], BASE[3][1] + (("span", "a", "b", ("of", "sp")),))
        self.assertEqual(feature_numbers(replaced(HOLE, sketch=spanned)), ["sp"])

    def test_needs(self):
        self.assertEqual(needs(BASE), [])
        self.assertEqual(needs(HOLE), ["base"])
        self.assertEqual(needs(feature("f", place=on("g", "high", ("z", "a.b"), ("a", "low"), ("z", "b.c"), ("f", "")))),
                         ["a", "f", "g", "z"])
        needs(HOLE).clear()
        feature_numbers(BASE).append("w")
        self.assertEqual((needs(HOLE), feature_numbers(BASE)), (["base"], []))


class Planes(unittest.TestCase):
    def test_base_axes(self):
        for axis in range(3):
            self.assertEqual(plane_of(("base", axis, ("times", (2, 1), W)), {"w": (1, 4)}, EMPTY),
                             (axis, (1, 2), ((0, 1), (0, 1)), 1))
        with self.assertRaises(NotThere):
            plane_of(("base", 0, W), {"v": (1, 1)}, EMPTY)

    def test_faces_in_six_directions(self):
        body = block((1, 2, 3), (5, 7, 9))
        wanted = [(0, 1, (2, 3), -1), (0, 5, (2, 3), 1), (1, 2, (3, 1), -1), (1, 7, (3, 1), 1),
                  (2, 3, (1, 2), -1), (2, 9, (1, 2), 1)]
        for d, (axis, h, (u, v), side) in enumerate(wanted):
            self.assertEqual(plane_of(("on", (("f", "s" + str(d)), ())), {}, body),
                             (axis, ratio(h), (ratio(u), ratio(v)), side))

    def test_a_name_that_does_not_stand(self):
        body = block((1, 2, 3), (5, 7, 9))
        for name in ((("f", "s9"), ()), (("f", "s1"), (("f", "s0"),))):
            with self.assertRaises(NotThere):
                plane_of(("on", name), {}, body)
        with self.assertRaises(NotThere):
            plane_of(("on", (("f", "s1"), ())), {}, joined(body, block((11, 2, 3), (15, 7, 9))))


class Building(unittest.TestCase):
    def test_nothing(self):
        self.assertEqual((built(((), ())), stages(((), ())), stop_of(((), ()))), (EMPTY, [], None))

    def test_a_join_a_cut_and_a_keep(self):
        keep = feature("keep", "keep", ("base", 0, ZERO), box_sketch(num(5), num(5)), low=num(-1), high=TWO)
        told = history(BASE, HOLE, keep)
        found = stages(told)
        self.assertEqual([volume(body) for body in found], [(8, 1), (7, 1), (3, 1)])
        self.assertEqual(built(told), found[-1])
        self.assertIsNone(stop_of(told))
        self.assertTrue(all(is_body(body) for body in found))
        found.clear()
        self.assertEqual(len(stages(told)), 3)

    def test_by_the_steps_of_the_document(self):
        places = {"a": (ratio(0), ratio(0)), "b": (ratio(4), ratio(0)), "c": (ratio(4), ratio(2)),
                  "d": (ratio(0), ratio(2))}
        first = prism(region(places, RINGS), side_edges(places, RINGS), 2, ratio(0), ratio(1), "base")
        self.assertEqual(behind(EMPTY, BASE, {}), first)
        small = {"a": (ratio(0), ratio(0)), "b": (ratio(1), ratio(0)), "c": (ratio(1), ratio(1)),
                 "d": (ratio(0), ratio(1))}
        added = prism(region(small, RINGS), side_edges(small, RINGS), 2, ratio(0), ratio(1), "hole")
        for deed, done in (("join", joined), ("cut", cut), ("keep", kept)):
            self.assertEqual(behind(first, replaced(HOLE, deed=deed), {}), done(first, added))

    def test_features_on_faces_in_six_directions(self):
        body = block((1, 2, 3), (5, 7, 9))
        # From 1 above the face on to 3 above it; a is moved from the least corner of the face by (1, 1/2).
        wanted = [((-2, 2 + 1, 3.5), (0, 5, 4.5)), ((6, 3, 3.5), (8, 5, 4.5)), ((1.5, -1, 4), (2.5, 1, 6)),
                  ((1.5, 8, 4), (2.5, 10, 6)), ((2, 2.5, 0), (4, 3.5, 2)), ((2, 2.5, 10), (4, 3.5, 12))]
        for d, (low, high) in enumerate(wanted):
            told = feature("g", "join", on("f", "s" + str(d)), box_sketch(TWO, ONE, ONE, num(1, 2)), low=ONE, high=num(3))
            added = cut(behind(body, told, {}), body)
            self.assertEqual(corners(added), [tuple(Fraction(one) for one in low), tuple(Fraction(one) for one in high)])
            # low and high are the ends along the axis, whichever way the face looks.
            found = {face[0][1]: face[1] for face in faces(added)}
            self.assertEqual((found["low"], found["high"]), (d // 2 * 2, d // 2 * 2 + 1))

    def test_a_cut_into_a_face(self):
        for d in range(6):
            told = feature("g", "cut", on("f", "s" + str(d)), box_sketch(ONE, ONE), low=num(-1), high=ONE)
            found = behind(block((1, 2, 3), (5, 7, 9)), told, {})
            self.assertEqual(volume(found), (119, 1))

    def test_the_region_is_moved(self):
        for axis in range(3):
            told = feature("g", "join", ("base", axis, num(7)), box_sketch(TWO, ONE, num(10), num(20)), low=ONE,
                           high=TWO)
            low = [None] * 3
            high = [None] * 3
            for at, one, other in ((axis, 8, 9), ((axis + 1) % 3, 10, 12), ((axis + 2) % 3, 20, 21)):
                low[at], high[at] = Fraction(one), Fraction(other)
            self.assertEqual(corners(behind(EMPTY, told, {})), [tuple(low), tuple(high)])

    def test_pick(self):
        points = tuple("abcd")
        # b is to the left or to the right of a; both shapes are taken in their order.
        sketch = (points, (("fix", "a", ZERO, ZERO), ("level", "a", "b"), ("span", "a", "b", num(9)),
                           ("plumb", "b", "c"), ("up", "b", "c", TWO), ("level", "c", "d"), ("plumb", "d", "a")))
        for pick, (low, high) in enumerate(((-3, 0), (0, 3))):
            found = behind(EMPTY, replaced(BASE, sketch=sketch, pick=pick), {})
            self.assertEqual([end[0] for end in corners(found)], [low, high])
        for pick in (2, 10 ** 20):
            self.assertEqual(stop_of(history(replaced(BASE, sketch=sketch, pick=pick))), ("base", "pick"))
        self.assertEqual(stop_of(history(replaced(BASE, pick=1))), ("base", "pick"))

    def test_a_hole_of_the_outline(self):
        points, constraints = box_sketch(num(6), num(6))
        inner = box_sketch(TWO, TWO, TWO, TWO)
        names = {"a": "e", "b": "f", "c": "g", "d": "h"}
        more = tuple(tuple(names.get(part, part) if k and isinstance(part, str) else part
                           for k, part in enumerate(constraint)) for constraint in inner[1])
        told = replaced(BASE, sketch=(tuple("abcdefgh"), constraints + more), rings=(tuple("abcd"), tuple("efgh")))
        found = built(history(told))
        self.assertEqual(volume(found), (32, 1))
        labels = {face[0]: face_area(found, face) for face in faces(found)}
        self.assertEqual(labels["base", "h.e"], (2, 1))
        self.assertEqual(labels["base", "high"], (32, 1))
        self.assertEqual(len(labels), 10)

    def test_not_right(self):
        for value in (None, (), ((), (BASE, BASE)), ((), [BASE]), history(replaced(BASE, pick=True))):
            for ask in (stages, built, stop_of):
                with self.assertRaises(NotRight):
                    ask(value)


class Stopping(unittest.TestCase):
    def check(self, reason, *features, **numbers):
        told = history(*features, **numbers)
        name = features[-1][0]
        self.assertEqual(stop_of(told), (name, reason))
        for ask in (built, stages):
            with self.assertRaises(Stops) as caught:
                ask(told)
            self.assertEqual((caught.exception.name, caught.exception.reason), (name, reason))
        if len(features) > 1:
            with self.assertRaises(Stops):
                behind(built(history(*features[:-1], **numbers)), features[-1], dict(told[0]))

    def test_number(self):
        for changed in (replaced(BASE, low=W), replaced(BASE, high=W), replaced(BASE, place=("base", 2, W)),
                        replaced(BASE, sketch=box_sketch(W, ONE)),
                        replaced(BASE, sketch=(BASE[3][0], BASE[3][1] + (("span", "a", "b", W),)))):
            self.check("number", changed, v=1)
        self.check("number", BASE, replaced(HOLE, low=("times", (0, 1), W)))

    def test_face(self):
        self.check("face", HOLE)
        self.check("face", BASE, replaced(HOLE, place=on("base", "top")))
        self.check("face", BASE, replaced(HOLE, place=on("base", "high", ("base", "low"))))

    def test_settled_words(self):
        points, constraints = BASE[3]
        for reason, told in (("none", constraints + (("up", "a", "b", ONE),)),
                             ("none", constraints + (("span", "a", "b", ONE),)),
                             ("free", constraints[1:]), ("free", constraints[:6]),
                             ("loose", constraints[1:] + (("span", "a", "b", num(16)),))):
            self.check(reason, replaced(BASE, sketch=(points, told)))

    def test_outline(self):
        for rings in ((tuple("abc"),), (tuple("abcz"),), (tuple("abcda"),), (tuple("acbd"),), ((),),
                      (tuple("abcd"), tuple("abcd"))):
            self.check("outline", replaced(BASE, rings=rings))
        self.check("outline", replaced(BASE, sketch=box_sketch(ZERO, TWO)))

    def test_low(self):
        self.check("low", replaced(BASE, low=ONE, high=ONE))
        self.check("low", replaced(BASE, low=num(1, 2), high=num(1, 3)))

    def test_large(self):
        features = [stairs("s" + str(k), k) for k in range(5)]
        # Four of them have 48, 48 and 8 cuts, 15463 boxes; five have 60, 60 and 10, 31329.
        found = stages(history(*features[:4]))
        self.assertEqual([len(cuts) for cuts in found[3][:3]], [48, 48, 8])
        self.assertEqual(volume(found[3]), (4 * 33, 1))
        self.check("large", *features)

    def test_empty(self):
        self.check("empty", replaced(BASE, deed="cut"))
        self.check("empty", replaced(BASE, deed="keep"))
        self.check("empty", BASE, replaced(BASE, name="f", deed="cut"))
        self.check("empty", BASE, replaced(BASE, name="f", deed="keep", low=TWO, high=num(3)))

    def test_which_comes_first(self):
        wrong = {"low": ONE, "rings": (tuple("abc"),), "pick": 7, "place": on("x", "y"), "deed": "cut"}
        free = (BASE[3][0], ())
        steps = [("number", {"high": W}), ("face", {"high": ONE}), ("free", {"place": ("base", 2, ZERO), "sketch": free}),
                 ("pick", {"sketch": BASE[3]}), ("outline", {"pick": 0}), ("low", {"rings": RINGS}),
                 ("empty", {"low": ZERO})]
        told = replaced(BASE, **wrong)
        for reason, parts in steps:
            told = replaced(told, **parts)
            self.check(reason, told, v=1)

    def test_the_first_feature_that_stops(self):
        told = history(BASE, replaced(HOLE, name="x", place=on("y", "high")), replaced(HOLE, high=W))
        self.assertEqual(stop_of(told), ("x", "face"))


def stairs(name, at):
    """Returns a feature of eleven stairs, half as high as they are wide, at a place of its own along each axis."""
    corners = [spot for k in range(11) for spot in ((11 - k, k), (11 - k, k + 1))] + [(0, 11), (0, 0)]
    points = tuple("p" + str(k).zfill(2) for k in range(24))
    by = num(at, 10)
    fixes = tuple(("fix", point, ("plus", num(x), by), ("plus", num(y), by)) for point, (x, y) in zip(points, corners))
    return feature(name, place=("base", 2, num(at)), sketch=(points, fixes), rings=(points,), high=num(1, 2))


if __name__ == "__main__":
    unittest.main()
