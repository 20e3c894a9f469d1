import copy
import random
import unittest
from fractions import Fraction

from mitrehouse.checkrows import takes_clash, takes_frame, takes_values
from mitrehouse.linear import accepts_frame, frame, fulfils, make_row, solve
from mitrehouse.ratios import ratio, times
from changes import changed
from samples import fraction
from test_linear import random_rows

NAMES = list("abcd")
X1 = make_row([("x", ratio(1))], ratio(1))
XY = make_row([("x", ratio(2)), ("y", ratio(4))], ratio(6))
YZ = make_row([("y", ratio(1)), ("z", ratio(-1))], ratio(0))


def slow_made(rows, factors):
    """Returns the terms, 0 left out, and the constant of what factors make, as fractions."""
    terms, constant = {}, Fraction(0)
    for (told, one), factor in zip(rows, factors):
        constant += fraction(one) * fraction(factor)
        for name, by in told:
            terms[name] = terms.get(name, 0) + fraction(by) * fraction(factor)
    return {name: one for name, one in terms.items() if one}, constant


def slow_frame(rows, told):
    """Returns True if a frame is accepted, by the words of the document."""
    leads = [lead for lead, _ in told]
    if leads != sorted(set(leads)) or any(len(factors) != len(rows) for _, factors in told):
        return False
    lines = {lead: slow_made(rows, factors) for lead, factors in told}
    for lead, (terms, _) in lines.items():
        if not terms or min(terms) != lead or terms[lead] != 1 or any(other in terms for other in lines if other != lead):
            return False
    for terms, constant in rows:
        left, end = {name: fraction(one) for name, one in terms}, fraction(constant)
        for lead, (line, asked) in lines.items():
            by = fraction(dict(terms).get(lead, (0, 1)))
            end -= by * asked
            for name, one in line.items():
                left[name] = left.get(name, 0) - by * one
        if end or any(left.values()):
            return False
    return True


class Clashes(unittest.TestCase):
    def test_right_and_wrong_factors(self):
        rows = [X1, YZ, make_row([("x", ratio(3))], ratio(4))]
        right = [ratio(-3), ratio(0), ratio(1)]
        self.assertIs(takes_clash(rows, right), True)
        self.assertIs(takes_clash(rows, [times(ratio(-2, 7), one) for one in right]), True)
        for wrong in ([], right[:2], right + [ratio(0)], [ratio(0)] * 3, [ratio(-3), ratio(1), ratio(1)],
                      [ratio(-4), ratio(0), ratio(1)], right[::-1], [(-3, 1), (0, 1), (2, 2)], [(-3, 1), (0, 1), (1, 0)],
                      [(-3, 1), (0, 1), None], [(-3, 1), (0, 1), 1]):
            self.assertIs(takes_clash(rows, wrong), False, wrong)

    def test_no_clash_without_a_constant(self):
        self.assertIs(takes_clash([], []), False)
        self.assertIs(takes_clash([X1, X1], [ratio(1), ratio(-1)]), False)
        self.assertIs(takes_clash([((), ratio(0))], [ratio(1)]), False)
        self.assertIs(takes_clash([((), ratio(2))], [ratio(1)]), True)

    def test_what_solve_tells(self):
        chance = random.Random(21)
        many = 0
        for _ in range(200):
            rows = random_rows(chance, chance.randint(1, 6), NAMES)
            told = solve(rows, NAMES)
            if told[0] == "none":
                many += 1
                self.assertIs(takes_clash(rows, told[1]), True)
                for wrong in changed(told[1]):
                    terms, constant = slow_made(rows, wrong)
                    self.assertIs(takes_clash(rows, wrong), len(wrong) == len(rows) and not terms and constant != 0)
        self.assertGreater(many, 20)


class Values(unittest.TestCase):
    def test_values(self):
        rows = [XY, YZ]
        for values in ({"x": ratio(1), "y": ratio(1), "z": ratio(1)}, {"x": ratio(3)}, {"x": ratio(3), "w": ratio(9)},
                       {"x": ratio(0), "y": ratio(3, 2), "z": ratio(3, 2)}):
            self.assertIs(takes_values(rows, values), True)
        for values in ({}, {"x": ratio(1), "y": ratio(1)}, {"x": ratio(2)}, {"y": ratio(3, 2)}, {"x": ratio(3), "z": ratio(1)},
                       {"x": (6, 2)}, {"x": 3}, {"x": ratio(3), "w": None}):
            self.assertIs(takes_values(rows, values), False)
        self.assertIs(takes_values([], {}), True)
        self.assertIs(takes_values([((), ratio(1))], {}), False)

    def test_random_values(self):
        chance = random.Random(20)
        for _ in range(150):
            rows = random_rows(chance, chance.randint(0, 4), NAMES)
            told = solve(rows, NAMES)
            if told[0] != "none":
                self.assertIs(takes_values(rows, told[1]), True)
                for wrong in changed(told[1]):
                    self.assertIs(takes_values(rows, wrong), fulfils(rows, wrong))


class Frames(unittest.TestCase):
    def test_the_sample(self):
        rows = [XY, YZ]
        told = frame(rows, ["x", "y", "z"])
        self.assertIs(takes_frame(rows, told), True)
        self.assertIs(takes_frame(rows, told[:1]), False)
        self.assertIs(takes_frame(rows, told[::-1]), False)
        self.assertIs(takes_frame(rows, told + told[-1:]), False)
        self.assertIs(takes_frame([], []), True)
        # A pair that makes a row without its lead.
        self.assertIs(takes_frame([], [("x", [])]), False)
        self.assertIs(takes_frame(rows, told + [("z", [ratio(0), ratio(0)])]), False)
        self.assertIs(takes_frame(rows, []), False)
        self.assertIs(takes_frame([((), ratio(0))], []), True)
        self.assertIs(takes_frame([((), ratio(1))], []), False)
        self.assertIs(takes_frame(rows, [("x", [(1, 2), (2, -1)]), told[1]]), False)

    def test_a_lead_has_to_be_the_first_unknown(self):
        # The row says the same if y leads it, but x comes ahead of it.
        self.assertIs(takes_frame([XY], [("x", [ratio(1, 2)])]), True)
        self.assertIs(takes_frame([XY], [("y", [ratio(1, 4)])]), False)
        self.assertIs(takes_frame([XY], [("x", [ratio(1)])]), False)

    def test_other_leads_in_a_row(self):
        rows = [make_row([("x", ratio(1)), ("y", ratio(1))], ratio(2)), make_row([("y", ratio(1))], ratio(1))]
        right = [("x", [ratio(1), ratio(-1)]), ("y", [ratio(0), ratio(1)])]
        self.assertIs(takes_frame(rows, right), True)
        self.assertIs(takes_frame(rows, [("x", [ratio(1), ratio(0)]), right[1]]), False)

    def test_frames_of_rows_and_changed_ones(self):
        chance = random.Random(23)
        many = 0
        for _ in range(60):
            rows = random_rows(chance, chance.randint(1, 4), NAMES)
            if solve(rows, NAMES)[0] == "none":
                continue
            told = frame(rows, NAMES)
            before = copy.deepcopy((rows, told))
            self.assertIs(takes_frame(rows, told), True)
            for wrong in changed(told):
                self.assertIs(takes_frame(rows, wrong), slow_frame(rows, wrong), wrong)
                self.assertIs(takes_frame(rows, wrong), accepts_frame(rows, wrong), wrong)
                many += 1
            # Rows that say something else, too.
            for others in (rows[1:], rows + [make_row([("a", ratio(1))], ratio(77))], rows[::-1]):
                self.assertIs(takes_frame(others, told), slow_frame(others, told))
            self.assertEqual((rows, told), before)
        self.assertGreater(many, 500)


if __name__ == "__main__":
    unittest.main()
