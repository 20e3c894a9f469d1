import copy
import random
import unittest
from fractions import Fraction

from mitrehouse.errors import NotRight
from mitrehouse.outlines import area, edges_of, fault, is_inside, region, side_edges
from mitrehouse.ratios import ratio
from samples import as_ratio, fraction

SQUARE = {"a": (0, 0), "b": (4, 0), "c": (4, 4), "d": (0, 4)}
HOLE = {"e": (1, 1), "f": (3, 1), "g": (3, 3), "h": (1, 3)}
ISLAND = {"i": (Fraction(3, 2), Fraction(3, 2)), "j": (Fraction(5, 2), Fraction(3, 2)),
          "k": (Fraction(5, 2), Fraction(5, 2)), "l": (Fraction(3, 2), Fraction(5, 2))}


def placed(*tables):
    """Returns the places of tables of integers or fractions."""
    return {name: tuple(as_ratio(Fraction(one)) for one in place) for table in tables for name, place in table.items()}


def ring(word):
    return tuple(word)


def rings(*words):
    return tuple(ring(word) for word in words)


def nested():
    return placed(SQUARE, HOLE, ISLAND), rings("abcd", "efgh", "ijkl")


class Edges(unittest.TestCase):
    def test_edges(self):
        self.assertEqual(edges_of(rings("abcd", "ef")),
                         [("a", "b"), ("b", "c"), ("c", "d"), ("d", "a"), ("e", "f"), ("f", "e")])
        self.assertEqual(edges_of(((), ("a",))), [("a", "a")])


class Faults(unittest.TestCase):
    def check(self, table, words, wanted):
        self.assertEqual(fault(placed(table), rings(*words)), wanted)

    def test_none(self):
        self.check(SQUARE, ["abcd"], None)
        self.check(SQUARE, ["dcba"], None)
        self.assertIsNone(fault(*nested()))

    def test_few(self):
        for word in ("", "a", "ab", "abc"):
            self.check(SQUARE, [word], ("few", 0))
        self.check({**SQUARE, **HOLE}, ["abcd", "efg", "h"], ("few", 1))

    def test_point(self):
        self.check(SQUARE, ["abcz"], ("point", "z"))
        self.check(SQUARE, ["abcd", "yxwv"], ("point", "y"))
        self.assertEqual(fault({}, rings("abcd")), ("point", "a"))

    def test_twice(self):
        self.check(SQUARE, ["abcda"], ("twice", "a"))
        self.check(SQUARE, ["abcdcb"], ("twice", "c"))
        self.check(SQUARE, ["abcd", "dcba"], ("twice", "d"))

    def test_slant(self):
        self.check(SQUARE, ["acbd"], ("slant", "a", "c"))
        self.check(SQUARE, ["abdc"], ("slant", "b", "d"))
        # Two corners with the same place are neither level nor plumb.
        self.check({**SQUARE, "e": (4, 0)}, ["abecd"], ("slant", "b", "e"))
        # The edge back to the first corner.
        self.check({"a": (0, 0), "b": (4, 0), "c": (4, 4), "d": (1, 4)}, ["abcd"], ("slant", "d", "a"))

    def test_which_comes_first(self):
        table = {**SQUARE, **HOLE}
        self.check(table, ["azzb", "efg"], ("few", 1))
        self.check(table, ["aabb", "efgz"], ("point", "z"))
        self.check(table, ["acbd", "efge"], ("twice", "e"))
        self.check({**SQUARE, "e": (2, 0), "f": (5, 0), "g": (5, 3), "h": (1, 2)}, ["abcd", "efgh"], ("slant", "g", "h"))
        self.check(table, ["zyxw", "zz"], ("few", 1))
        self.check(table, ["zaaz"], ("point", "z"))

    def test_touching_at_a_corner(self):
        self.check({**SQUARE, "e": (4, 4), "f": (6, 4), "g": (6, 6), "h": (4, 6)}, ["abcd", "efgh"],
                   ("meet", "b", "c", "e", "f"))
        self.check({**SQUARE, "e": (6, 6), "f": (4, 6), "g": (4, 4), "h": (6, 4)}, ["efgh", "abcd"],
                   ("meet", "f", "g", "b", "c"))

    def test_touching_along_an_edge(self):
        self.check({**SQUARE, "e": (4, 1), "f": (6, 1), "g": (6, 3), "h": (4, 3)}, ["abcd", "efgh"],
                   ("meet", "b", "c", "e", "f"))

    def test_crossing(self):
        self.check({**SQUARE, "e": (2, -1), "f": (3, -1), "g": (3, 5), "h": (2, 5)}, ["abcd", "efgh"],
                   ("meet", "a", "b", "f", "g"))
        self.check({**SQUARE, "e": (-1, 2), "f": (5, 2), "g": (5, 3), "h": (-1, 3)}, ["abcd", "efgh"],
                   ("meet", "b", "c", "e", "f"))

    def test_a_ring_that_meets_itself(self):
        self.check({"a": (0, 0), "b": (4, 0), "c": (4, 2), "d": (2, 2), "e": (2, -1), "f": (0, -1)}, ["abcdef"],
                   ("meet", "a", "b", "d", "e"))

    def test_neighbours_that_fold_back(self):
        self.check({"a": (0, 0), "b": (4, 0), "c": (2, 0), "d": (2, 3), "e": (0, 3)}, ["abcde"],
                   ("meet", "a", "b", "b", "c"))
        self.check({"a": (2, 0), "b": (4, 0), "c": (4, 3), "d": (5, 3), "e": (5, 0)}, ["abcde"],
                   ("meet", "a", "b", "e", "a"))
        self.check({"a": (0, 0), "b": (0, 4), "c": (0, 2), "d": (3, 2), "e": (3, 0)}, ["abcde"],
                   ("meet", "a", "b", "b", "c"))

    def test_neighbours_that_go_straight_on(self):
        self.check({**SQUARE, "e": (2, 0)}, ["aebcd"], None)

    def test_against_points_of_a_grid(self):
        chance = random.Random(41)
        kinds = {}
        for _ in range(600):
            table, word = random_walk(chance)
            wanted = self.slow_fault(table, word)
            self.check(table, [word], wanted)
            kinds[wanted and wanted[0]] = True
        self.assertEqual(len(kinds), 2)

    def slow_fault(self, table, word):
        edges = edges_of(rings(word))
        spots = []
        for p, q in edges:
            (x, y), (u, v) = table[p], table[q]
            spots.append({(i, j) for i in range(min(x, u), max(x, u) + 1) for j in range(min(y, v), max(y, v) + 1)})
        for k in range(len(edges)):
            for n in range(k + 1, len(edges)):
                both = spots[k] & spots[n]
                beside = set(edges[k]) & set(edges[n])
                if both and not (beside and both == {table[point] for point in beside}):
                    return ("meet",) + edges[k] + edges[n]
        return None


def random_walk(chance):
    """Returns integer places of a closed walk with right angles, and the word of its corners."""
    many = chance.choice([2, 2, 3])
    xs, ys = [chance.sample(range(7), many) for _ in range(2)]
    corners = []
    for k in range(many):
        corners += [(xs[k], ys[k]), (xs[(k + 1) % many], ys[k])]
    names = "abcdefgh"[:len(corners)]
    return dict(zip(names, corners)), names


class Regions(unittest.TestCase):
    def test_holes_and_islands(self):
        places, told = nested()
        xs, ys, cells = region(places, told)
        self.assertEqual(xs, tuple(as_ratio(Fraction(one)) for one in (0, 1, 1.5, 2.5, 3, 4)))
        self.assertEqual(ys, xs)
        full = {(i, j) for i in range(5) for j in range(5)}
        hole = {(i, j) for i in range(1, 4) for j in range(1, 4)}
        self.assertEqual(cells, tuple(sorted(full - hole | {(2, 2)})))
        self.assertEqual(area(places, told), (13, 1))

    def test_either_way_round(self):
        places, told = nested()
        for turned in ((told[0][::-1],) + told[1:], (told[0], told[1][::-1], told[2]), told[::-1],
                       (told[0][2:] + told[0][:2],) + told[1:]):
            self.assertIsNone(fault(places, turned))
            self.assertEqual(region(places, turned), region(places, told))
            self.assertEqual(area(places, turned), (13, 1))

    def test_fractions(self):
        places = placed({"a": (Fraction(1, 3), 0), "b": (Fraction(1, 2), 0), "c": (Fraction(1, 2), Fraction(-5, 7)),
                         "d": (Fraction(1, 3), Fraction(-5, 7))})
        self.assertEqual(region(places, rings("abcd")),
                         (((1, 3), (1, 2)), ((-5, 7), (0, 1)), ((0, 0),)))
        self.assertEqual(area(places, rings("abcd")), (5, 42))

    def test_two_rings_side_by_side(self):
        places = placed(SQUARE, {"e": (5, 0), "f": (6, 0), "g": (6, 4), "h": (5, 4)})
        self.assertEqual(region(places, rings("abcd", "efgh"))[2], ((0, 0), (2, 0)))
        self.assertEqual(area(places, rings("abcd", "efgh")), (20, 1))

    def test_corners_on_straight_lines_make_cuts(self):
        places = placed({**SQUARE, "e": (2, 0)})
        self.assertEqual(region(places, rings("aebcd"))[0], ((0, 1), (2, 1), (4, 1)))
        self.assertEqual(area(places, rings("aebcd")), (16, 1))

    def test_side_edges(self):
        places, told = nested()
        found = side_edges(places, told)
        self.assertEqual(found[0, 0, 2], ("a", "b"))
        self.assertEqual(found[4, 1, 1], ("b", "c"))
        self.assertEqual(found[3, 4, 3], ("c", "d"))
        self.assertEqual(found[0, 4, 0], ("d", "a"))
        # The region lies below the lower edge of the hole.
        self.assertEqual(found[2, 0, 3], ("e", "f"))
        self.assertEqual(found[2, 2, 2], ("i", "j"))

    def test_each_side_of_the_border_once(self):
        for places, told in self.outlines():
            cells = set(region(places, told)[2])
            border = {(i, j, d) for i, j in cells
                      for d, beyond in enumerate([(i - 1, j), (i + 1, j), (i, j - 1), (i, j + 1)])
                      if beyond not in cells}
            found = side_edges(places, told)
            self.assertEqual(set(found), border)
            xs, ys, _ = region(places, told)
            for (i, j, d), (p, q) in found.items():
                if d < 2:
                    self.assertEqual({places[p][0], places[q][0]}, {xs[i + d]})
                else:
                    self.assertEqual({places[p][1], places[q][1]}, {ys[j + d - 2]})
            self.assertEqual(set(found.values()), set(edges_of(told)))

    def outlines(self):
        chance = random.Random(42)
        found = [nested()]
        while len(found) < 40:
            table, word = random_walk(chance)
            if fault(placed(table), rings(word)) is None:
                found.append((placed(table), rings(word)))
        return found

    def test_inside(self):
        places, told = nested()
        for x, y, wanted in ((Fraction(1, 2), Fraction(1, 2), True), (2, 2, True), (Fraction(5, 4), 2, False),
                             (Fraction(1, 2), 1, True), (Fraction(1, 2), 3, True), (Fraction(7, 2), Fraction(3, 2), True),
                             (-1, 0, False), (-1, 2, False), (5, 2, False), (2, 5, False), (2, -1, False),
                             (-1, 4, False), (-1, 1, False), (0, 0, False), (4, 4, False), (2, 0, False), (4, 1, False),
                             (2, 1, False), (1, 2, False), (2, Fraction(3, 2), False), (1, 1, False), (0, 4, False)):
            self.assertIs(is_inside(places, told, (as_ratio(Fraction(x)), as_ratio(Fraction(y)))), wanted, (x, y))

    def test_inside_of_a_ring_with_a_corner_on_a_straight_line(self):
        places, told = placed({**SQUARE, "e": (2, 0)}), rings("aebcd")
        for x, y, wanted in ((1, 1, True), (3, 1, True), (-1, 1, False), (5, 1, False), (1, 5, False), (1, -1, False),
                             (2, 0, False), (1, 0, False), (3, 0, False), (-1, 0, False), (0, 4, False)):
            self.assertIs(is_inside(places, told, (ratio(x), ratio(y))), wanted, (x, y))

    def test_cells_are_those_whose_middles_are_inside(self):
        for places, told in self.outlines():
            xs, ys, cells = region(places, told)
            for i in range(len(xs) - 1):
                for j in range(len(ys) - 1):
                    middle = (as_ratio((fraction(xs[i]) + fraction(xs[i + 1])) / 2),
                              as_ratio((fraction(ys[j]) + fraction(ys[j + 1])) / 2))
                    self.assertEqual((i, j) in cells, is_inside(places, told, middle))
            doubled = sum(fraction(places[p][0]) * fraction(places[q][1])
                          - fraction(places[q][0]) * fraction(places[p][1]) for p, q in edges_of(told[:1]))
            if len(told) == 1:
                self.assertEqual(area(places, told), as_ratio(abs(doubled) / 2))

    def test_not_right(self):
        for table, words in ((SQUARE, ["abc"]), (SQUARE, ["abcz"]), (SQUARE, ["abcda"]), (SQUARE, ["acbd"]),
                             ({**SQUARE, "e": (4, 4), "f": (6, 4), "g": (6, 6), "h": (4, 6)}, ["abcd", "efgh"])):
            places, told = placed(table), rings(*words)
            for ask in (region, side_edges, area):
                with self.assertRaises(NotRight):
                    ask(places, told)
            with self.assertRaises(NotRight):
                is_inside(places, told, (ratio(1), ratio(1)))

    def test_arguments_stay_and_answers_are_new(self):
        places, told = nested()
        before = copy.deepcopy(places)
        wanted = dict(side_edges(places, told))
        side_edges(places, told).clear()
        edges_of(told).clear()
        self.assertEqual(side_edges(places, told), wanted)
        area(places, told)
        is_inside(places, told, (ratio(1), ratio(1)))
        self.assertEqual(places, before)


if __name__ == "__main__":
    unittest.main()
