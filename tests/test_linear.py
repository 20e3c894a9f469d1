import copy
import random
import unittest
from fractions import Fraction
from itertools import combinations

from mitrehouse.errors import NotRight, NotThere, TooLarge
from mitrehouse.linear import (accepts_frame, follows, frame, fulfils, is_clash, least_conflicts, made, make_row,
                               needless, reduced_rows, solve, worth)
from mitrehouse.ratios import plus, ratio, times
from samples import as_ratio, fraction

ZERO = (0, 1)
ONE = (1, 1)


def row(constant, **terms):
    return make_row([(name, ratio(worth_of)) for name, worth_of in terms.items()], ratio(constant))


def table(rows, unknowns):
    """Returns the rows as lists of fractions, the constant last."""
    return [[fraction(dict(terms).get(name, ZERO)) for name in unknowns] + [fraction(constant)]
            for terms, constant in rows]


def echelon(lines):
    """Returns the reduced lines of a table that are not 0, and the columns of their leads."""
    lines = [list(line) for line in lines]
    leads = []
    for column in range(len(lines[0]) if lines else 0):
        at = [k for k in range(len(leads), len(lines)) if lines[k][column]]
        if at:
            k = len(leads)
            lines[k], lines[at[0]] = lines[at[0]], lines[k]
            lines[k] = [one / lines[k][column] for one in lines[k]]
            for other in range(len(lines)):
                if other != k:
                    less = lines[other][column]
                    lines[other] = [one - less * two for one, two in zip(lines[other], lines[k])]
            leads.append(column)
    return lines[:len(leads)], leads


def random_rows(chance, many, unknowns, dense=0.5):
    found = []
    for _ in range(many):
        terms = [(name, ratio(chance.randint(-2, 2), chance.randint(1, 2))) for name in unknowns
                 if chance.random() < dense]
        found.append(make_row(terms, ratio(chance.randint(-2, 2))))
    return found


class Rows(unittest.TestCase):
    def test_make_row(self):
        told = [("y", ratio(1)), ("x", ratio(2)), ("y", ratio(1, 2)), ("z", ratio(3)), ("z", ratio(-3))]
        kept = list(told)
        self.assertEqual(make_row(told, ratio(5)), ((("x", (2, 1)), ("y", (3, 2))), (5, 1)))
        self.assertEqual(told, kept)
        self.assertEqual(make_row([], ratio(1)), ((), (1, 1)))
        self.assertEqual(make_row([("x", ZERO)], ratio(1)), ((), (1, 1)))
        self.assertEqual(make_row([("x", ONE), ("x", (-1, 1)), ("x", (2, 1))], ZERO), ((("x", (2, 1)),), ZERO))

    def test_worth_and_fulfils(self):
        one = row(6, x=2, y=4)
        self.assertEqual(worth(one, {"x": (3, 1)}), (6, 1))
        self.assertEqual(worth(one, {}), ZERO)
        self.assertEqual(worth(one, {"x": (1, 2), "y": (1, 3), "z": (9, 1)}), (7, 3))
        self.assertIs(fulfils([one], {"x": (3, 1)}), True)
        self.assertIs(fulfils([one, row(1, y=1)], {"x": (3, 1)}), False)
        self.assertIs(fulfils([], {}), True)
        self.assertIs(fulfils([((), ONE)], {}), False)

    def test_made(self):
        rows = [row(1, x=1, y=2), row(3, y=1)]
        self.assertEqual(made(rows, [(1, 1), (-2, 1)]), ((("x", (1, 1)),), (-5, 1)))
        self.assertEqual(made(rows, [ZERO, ZERO]), ((), ZERO))
        self.assertEqual(made([], []), ((), ZERO))
        for factors in ([], [ONE], [ONE, ONE, ONE]):
            with self.assertRaises(NotRight):
                made(rows, factors)

    def test_is_clash(self):
        self.assertIs(is_clash(((), (1, 2))), True)
        self.assertIs(is_clash(((), (0, 1))), False)
        self.assertIs(is_clash(row(1, x=1)), False)


class Solving(unittest.TestCase):
    def test_no_rows(self):
        self.assertEqual(solve([], []), ("one", {}))
        self.assertEqual(solve([], ["x", "y"]), ("free", {"x": ZERO, "y": ZERO},
                                                 [{"x": ONE, "y": ZERO}, {"x": ZERO, "y": ONE}]))
        self.assertEqual((reduced_rows([], []), frame([], []), needless([]), least_conflicts([])), ([], [], [], []))
        self.assertIs(accepts_frame([], []), True)

    def test_one(self):
        self.assertEqual(solve([row(3, x=1, y=1), row(1, x=1, y=-1)], ["x", "y"]),
                         ("one", {"x": (2, 1), "y": (1, 1)}))

    def test_unknowns_that_no_row_has(self):
        self.assertEqual(solve([row(4, m=2)], ["a", "m", "z"]),
                         ("free", {"a": ZERO, "m": (2, 1), "z": ZERO},
                          [{"a": ONE, "m": ZERO, "z": ZERO}, {"a": ZERO, "m": ZERO, "z": ONE}]))

    def test_clash(self):
        rows = [row(1, x=1, y=1), row(2, y=1), row(4, x=1, y=2)]
        told = solve(rows, ["x", "y"])
        self.assertEqual((told[0], len(told), len(told[1])), ("none", 2, 3))
        self.assertTrue(is_clash(made(rows, told[1])))
        self.assertTrue(is_clash(made([((), ONE)], solve([((), ONE)], [])[1])))

    def test_unknowns_not_right(self):
        rows = [row(1, x=1, y=1)]
        for unknowns in (["y", "x"], ["x", "x", "y"], ["x"], [], ["y"], ["a", "x"]):
            for asked in (solve, reduced_rows, frame):
                with self.assertRaises(NotRight):
                    asked(rows, unknowns)

    def test_not_right_is_ahead_of_not_there(self):
        rows = [row(1, x=1), row(2, x=1)]
        for asked in (reduced_rows, frame):
            with self.assertRaises(NotThere):
                asked(rows, ["x"])
            with self.assertRaises(NotRight):
                asked(rows, [])
            with self.assertRaises(NotRight):
                asked(rows, ["x", "a"])

    def test_arguments_stay_and_answers_are_new(self):
        rows, unknowns = [row(4, x=1, y=2), row(8, x=2, y=4)], ["x", "y", "z"]
        before = copy.deepcopy((rows, unknowns))
        told, found = solve(rows, unknowns), frame(rows, unknowns)
        wanted = copy.deepcopy((told, found))
        told[1]["x"] = told[2][0]["x"] = None
        told[2].clear()
        found[0][1].append(None)
        found.clear()
        reduced_rows(rows, unknowns).clear()
        self.assertEqual((solve(rows, unknowns), frame(rows, unknowns)), wanted)
        self.assertEqual((rows, unknowns), before)

    def test_against_tables_of_fractions(self):
        chance = random.Random(20)
        for _ in range(300):
            unknowns = list("abcde")[:chance.randint(1, 5)]
            rows = random_rows(chance, chance.randint(0, 6), unknowns)
            lines, leads = echelon(table(rows, unknowns))
            told = solve(rows, unknowns)
            if len(unknowns) in leads:
                self.assertEqual(told[0], "none")
                self.assertTrue(is_clash(made(rows, told[1])))
                self.assertRaises(NotThere, frame, rows, unknowns)
                self.assertRaises(NotThere, reduced_rows, rows, unknowns)
                continue
            self.check_settled(rows, unknowns, lines, leads, told)

    def check_settled(self, rows, unknowns, lines, leads, told):
        wanted = [make_row([(unknowns[k], as_ratio(line[k])) for k in range(len(unknowns))], as_ratio(line[-1]))
                  for line in lines]
        self.assertEqual(reduced_rows(rows, unknowns), wanted)
        values = {name: ZERO for name in unknowns}
        for line, lead in zip(lines, leads):
            values[unknowns[lead]] = as_ratio(line[-1])
        self.assertEqual(told[1], values)
        ways = []
        for k, name in enumerate(unknowns):
            if k not in leads:
                way = {other: ONE if other == name else ZERO for other in unknowns}
                for line, lead in zip(lines, leads):
                    way[unknowns[lead]] = as_ratio(-line[k])
                ways.append(way)
        self.assertEqual(told, ("free", values, ways) if ways else ("one", values))
        for way in ways:
            self.assertTrue(fulfils(rows, {name: plus(values[name], times((3, 7), way[name])) for name in unknowns}))
        found = frame(rows, unknowns)
        self.assertTrue(accepts_frame(rows, found))
        self.assertEqual([made(rows, factors) for _, factors in found], wanted)
        self.assertEqual([lead for lead, _ in found], [unknowns[k] for k in leads])


class Frames(unittest.TestCase):
    def setUp(self):
        self.rows = [row(3, x=1, y=1), row(7, x=2, y=2, z=1), row(4, x=1, y=1, z=1)]
        self.frame = frame(self.rows, ["x", "y", "z"])

    def test_its_own(self):
        self.assertTrue(accepts_frame(self.rows, self.frame))

    def test_one_made_otherwise(self):
        # The third row is the second one less the first one.
        other = [("x", [(0, 1), (1, 1), (-1, 1)]), ("z", [(0, 1), (-1, 1), (2, 1)])]
        self.assertTrue(accepts_frame(self.rows, other))
        self.assertTrue(accepts_frame(self.rows, [("x", [(1, 1), ZERO, ZERO]), ("z", [(-1, 1), ZERO, (1, 1)])]))

    def test_changed_factors(self):
        for k in range(2):
            for n in range(3):
                changed = copy.deepcopy(self.frame)
                changed[k][1][n] = plus(changed[k][1][n], (1, 3))
                self.assertIs(accepts_frame(self.rows, changed), False)

    def test_changed_leads(self):
        (x, first), (z, second) = self.frame
        for changed in ([("y", first), (z, second)], [(x, first), ("y", second)], [(x, first), ("zz", second)],
                        [(z, second), (x, first)], [("z", first), ("x", second)], [("a", first), (z, second)]):
            self.assertIs(accepts_frame(self.rows, changed), False)

    def test_left_out_and_doubled(self):
        one, other = self.frame
        for changed in ([], [one], [other], [one, one, other], [one, other, other],
                        [one, other, ("zz", [ZERO, ZERO, ZERO])], [("a", [ZERO, ZERO, ZERO]), one, other]):
            self.assertIs(accepts_frame(self.rows, changed), False)

    def test_factors_of_another_length(self):
        (x, first), (z, second) = self.frame
        for changed in ([(x, first[:2]), (z, second)], [(x, first + [ZERO]), (z, second)], [(x, []), (z, second)],
                        [(x, first), (z, second + [ZERO])]):
            self.assertIs(accepts_frame(self.rows, changed), False)

    def test_another_lead_in_a_row(self):
        # The first row has the lead z of the other one.
        rows = [row(4, x=1, z=1), row(1, z=1)]
        self.assertIs(accepts_frame(rows, [("x", [ONE, ZERO]), ("z", [ZERO, ONE])]), False)
        self.assertIs(accepts_frame(rows, [("x", [ONE, (-1, 1)]), ("z", [ZERO, ONE])]), True)
        self.assertIs(accepts_frame(rows, [("x", [(2, 1), (-2, 1)]), ("z", [ZERO, ONE])]), False)

    def test_clashing_rows_have_none(self):
        rows = [row(1, x=1), row(2, x=1)]
        for found in ([], [("x", [ONE, ZERO])], [("x", [ZERO, ONE])]):
            self.assertIs(accepts_frame(rows, found), False)


class Following(unittest.TestCase):
    def test_follows(self):
        rows = [row(1, x=1, y=1), row(2, y=1)]
        for wanted in (row(-1, x=1), row(4, x=2, y=3), ((), ZERO), rows[1]):
            self.assertEqual(made(rows, follows(rows, wanted)), wanted)
        for wanted in (row(0, x=1), row(1, z=1), ((), ONE)):
            self.assertIsNone(follows(rows, wanted))
        self.assertEqual(follows([], ((), ZERO)), [])
        self.assertIsNone(follows([], ((), ONE)))

    def test_follows_from_a_clash(self):
        rows = [row(1, x=1), row(2, x=1)]
        for wanted in (row(77, x=1), ((), ONE), row(0, x=-3)):
            self.assertEqual(made(rows, follows(rows, wanted)), wanted)
        self.assertIsNone(follows(rows, row(1, y=1)))

    def test_needless(self):
        rows = [row(1, x=1), row(2, x=2), ((), ZERO), row(3, y=1), row(4, x=1, y=1), row(5, x=1, y=1), row(9, x=1),
                ((), ONE), row(1, z=1)]
        # From the sixth row on there is a clash, of which each row over x and y follows.
        self.assertEqual(needless(rows), [1, 2, 4, 6, 7])
        self.assertEqual(needless(rows[:1]), [])

    def test_needless_against_tables(self):
        chance = random.Random(24)
        for _ in range(150):
            unknowns = list("abc")
            rows = random_rows(chance, chance.randint(0, 7), unknowns)
            ranks = [len(echelon(table(rows[:k], unknowns))[1]) for k in range(len(rows) + 1)]
            self.assertEqual(needless(rows), [k for k in range(len(rows)) if ranks[k] == ranks[k + 1]])


class Conflicts(unittest.TestCase):
    def test_order(self):
        rows = [row(1, x=1), row(1, y=1), row(2, x=1), row(9, x=1, y=1), ((), ONE), row(1, z=1)]
        self.assertEqual(least_conflicts(rows), [(4,), (0, 2), (0, 1, 3), (1, 2, 3)])

    def test_none(self):
        self.assertEqual(least_conflicts([row(1, x=1), row(1, y=1)]), [])

    def test_too_large(self):
        rows = [row(k, x=1) for k in range(10)]
        self.assertEqual(least_conflicts(rows), list(combinations(range(10), 2)))
        self.assertRaises(TooLarge, least_conflicts, rows + [row(0, y=1)])
        self.assertRaises(TooLarge, least_conflicts, [row(0, y=1)] * 11)

    def test_against_all_sets(self):
        chance = random.Random(7)
        for _ in range(60):
            unknowns = list("abc")
            rows = random_rows(chance, chance.randint(0, 6), unknowns)
            found = []
            for size in range(1, len(rows) + 1):
                for chosen in combinations(range(len(rows)), size):
                    clash = 3 in echelon(table([rows[k] for k in chosen], unknowns))[1]
                    if clash and not any(set(part) <= set(chosen) for part in found):
                        found.append(chosen)
            self.assertEqual(least_conflicts(rows), found)


if __name__ == "__main__":
    unittest.main()
