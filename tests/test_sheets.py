import copy
import random
import unittest

from mitrehouse.errors import NotRight, NotThere
from mitrehouse.lengths import length_worth
from mitrehouse.linear import is_clash, made, solve
from mitrehouse.ratios import ratio
from mitrehouse.sheets import hangs_on, is_sheet, plain_names, settled_sheet, sheet_rows
from samples import ONE, TWO, ZERO, as_ratio, fraction, num


def of(name):
    return ("of", name)


def plus(one, other):
    return ("plus", one, other)


def minus(one, other):
    return ("minus", one, other)


def by(factor, length):
    return ("times", ratio(factor), length)


def nested(depth):
    """Returns a length that is nested so deep."""
    return ONE if depth == 1 else plus(ONE, nested(depth - 1))


def sheet(**lengths):
    return tuple(sorted(lengths.items()))


CHAIN = sheet(a=TWO, b=plus(of("a"), ONE), c=minus(of("b"), of("a")))
RING = sheet(h=plus(of("w"), ONE), w=by(-1, of("h")))
# x hangs on a ring, y on a number that is none of the sheet.
MIXED = sheet(a=TWO, p=of("q"), q=by(2, of("p")), x=plus(of("p"), of("a")), y=plus(of("out"), of("a")), z=of("y"))


class IsSheet(unittest.TestCase):
    def test_sheets(self):
        for value in ((), CHAIN, RING, MIXED, sheet(a=nested(8)), (("a", of("a")),),
                      tuple(("n" + str(k), ONE) for k in range(10, 50))):
            self.assertIs(is_sheet(value), True)

    def test_other_values(self):
        for value in (None, 0, "a", {}, [], [("a", ONE)], (("a", ONE), ["b", ONE]), (("a", ONE, ONE),), (("a",),),
                      ("a", ONE), ((ONE, "a"),), (("A", ONE),), (("", ONE),), ((1, ONE),), (("a", None),),
                      (("a", 1),), (("a", (1, 1)),), (("a", ("num", (2, 2))),), (("a", ("num", 1)),),
                      (("a", ["num", (1, 1)]),), (("a", of("B")),), (("a", nested(9)),), (("abcdefghijklm", ONE),),
                      (("b", ONE), ("a", ONE)), (("a", ONE), ("a", ONE)), (("a", ONE), ("c", ONE), ("b", ONE)),
                      tuple(("n" + str(k), ONE) for k in range(10, 51)), (("a", ONE), None)):
            self.assertIs(is_sheet(value), False, value)


class Rows(unittest.TestCase):
    def test_rows(self):
        self.assertEqual(sheet_rows(CHAIN), [((("a", (1, 1)),), (2, 1)), ((("a", (-1, 1)), ("b", (1, 1))), (1, 1)),
                                             ((("a", (1, 1)), ("b", (-1, 1)), ("c", (1, 1))), (0, 1))])
        self.assertEqual(sheet_rows(()), [])

    def test_a_name_on_both_sides(self):
        self.assertEqual(sheet_rows(sheet(a=plus(by(3, of("a")), num(5)))), [((("a", (-2, 1)),), (5, 1))])
        self.assertEqual(sheet_rows(sheet(a=of("a"))), [((), (0, 1))])
        self.assertEqual(sheet_rows(sheet(a=plus(of("a"), ONE))), [((), (1, 1))])

    def test_numbers_that_are_no_names_of_the_sheet(self):
        self.assertEqual(sheet_rows(sheet(a=minus(by(2, plus(of("z"), ONE)), of("b")))),
                         [((("a", (1, 1)), ("b", (1, 1)), ("z", (-2, 1))), (2, 1))])

    def test_what_num_adds(self):
        length = by(3, minus(num(1, 2), plus(of("b"), by(2, num(4)))))
        self.assertEqual(sheet_rows(sheet(a=length)), [((("a", (1, 1)), ("b", (3, 1))), (-45, 2))])


class Settled(unittest.TestCase):
    def test_one(self):
        self.assertEqual(settled_sheet(CHAIN), ("one", {"a": ratio(2), "b": ratio(3), "c": ratio(1)}))
        self.assertEqual(settled_sheet(RING), ("one", {"h": ratio(1, 2), "w": ratio(-1, 2)}))
        self.assertEqual(settled_sheet(()), ("one", {}))

    def test_freedoms(self):
        told = settled_sheet(MIXED)
        self.assertEqual(told[0], "free")
        self.assertEqual(sorted(told[1]), ["a", "out", "p", "q", "x", "y", "z"])
        self.assertEqual(len(told[2]), 1)
        # The unknowns ascend, so the number that is none of the sheet leads and z is free.
        self.assertEqual(told[1]["out"], ratio(-2))
        self.assertEqual(told[2][0]["out"], ratio(1))
        self.assertEqual(settled_sheet(sheet(a=of("b"), b=of("a"))),
                         ("free", {"a": ratio(0), "b": ratio(0)}, [{"a": ratio(1), "b": ratio(1)}]))

    def test_a_number_that_cancels_is_an_unknown(self):
        told = settled_sheet(sheet(a=minus(of("z"), of("z"))))
        self.assertEqual(told, ("free", {"a": ratio(0), "z": ratio(0)}, [{"a": ratio(0), "z": ratio(1)}]))

    def test_clash(self):
        for value in (sheet(a=plus(of("a"), ONE)), sheet(a=plus(of("b"), ONE), b=plus(of("a"), ONE)),
                      sheet(a=of("b"), b=of("c"), c=plus(of("a"), TWO))):
            word, factors = settled_sheet(value)
            self.assertEqual(word, "none")
            self.assertTrue(is_clash(made(sheet_rows(value), factors)))

    def test_against_the_words(self):
        chance = random.Random(120)
        words = {}
        for _ in range(80):
            names = chance.sample("abcde", chance.randint(1, 4))
            value = sheet(**{name: self.random_length(chance) for name in names})
            before = copy.deepcopy(value)
            told = settled_sheet(value)
            words[told[0]] = True
            self.assertEqual(value, before)
            rows = sheet_rows(value)
            self.assertEqual(len(rows), len(value))
            if told[0] == "none":
                continue
            for factor in (0, 1, -2):
                found = dict(told[1])
                for way in told[2] if len(told) == 3 else []:
                    found = {name: as_ratio(fraction(found[name]) + factor * fraction(way[name])) for name in found}
                for name, length in value:
                    self.assertEqual(found[name], length_worth(length, found))
            self.assertEqual(solve(rows, sorted(told[1])), told)
            if len(plain_names(value)) == len(value):
                self.assertEqual(told[0], "one")
        self.assertEqual(sorted(words), ["free", "none", "one"])

    def random_length(self, chance, depth=3):
        word = chance.choice(["num", "of", "plus", "minus", "times"]) if depth else chance.choice(["num", "of"])
        if word == "num":
            return num(chance.randint(-2, 2))
        if word == "of":
            return of(chance.choice("abcdef"))
        if word == "times":
            return by(chance.randint(-1, 2), self.random_length(chance, depth - 1))
        return (word, self.random_length(chance, depth - 1), self.random_length(chance, depth - 1))


class Hanging(unittest.TestCase):
    def test_chains(self):
        self.assertEqual([hangs_on(CHAIN, name) for name in "abc"], [[], ["a"], ["a", "b"]])
        self.assertEqual(plain_names(CHAIN), ["a", "b", "c"])
        self.assertEqual(plain_names(()), [])

    def test_rings(self):
        self.assertEqual([hangs_on(RING, name) for name in "hw"], [["h", "w"], ["h", "w"]])
        self.assertEqual(plain_names(RING), [])
        self.assertEqual((hangs_on(sheet(a=of("a")), "a"), plain_names(sheet(a=of("a")))), (["a"], []))

    def test_what_hangs_on_a_ring_or_on_what_is_none_of_the_sheet(self):
        self.assertEqual({name: hangs_on(MIXED, name) for name in "apqxyz"},
                         {"a": [], "p": ["p", "q"], "q": ["p", "q"], "x": ["a", "p", "q"], "y": ["a", "out"],
                          "z": ["a", "out", "y"]})
        # x hangs on a ring, but not on itself, and on names of the sheet alone.
        self.assertEqual(plain_names(MIXED), ["a", "x"])

    def test_names_in_lengths_count_whatever_their_factor_is(self):
        value = sheet(a=by(0, of("b")), b=ZERO, c=minus(of("d"), of("d")))
        self.assertEqual((hangs_on(value, "a"), hangs_on(value, "c"), plain_names(value)), (["b"], ["d"], ["a", "b"]))

    def test_answers_are_new(self):
        hangs_on(CHAIN, "c").clear()
        plain_names(CHAIN).clear()
        sheet_rows(CHAIN).clear()
        settled_sheet(CHAIN)[1].clear()
        self.assertEqual((hangs_on(CHAIN, "c"), len(plain_names(CHAIN)), len(sheet_rows(CHAIN)),
                          len(settled_sheet(CHAIN)[1])), (["a", "b"], 3, 3, 3))

    def test_errors(self):
        for value in (None, [], (("b", ONE), ("a", ONE)), sheet(a=nested(9))):
            for ask in (lambda: sheet_rows(value), lambda: settled_sheet(value), lambda: hangs_on(value, "nowhere"),
                        lambda: plain_names(value)):
                self.assertRaises(NotRight, ask)
        for name in ("nowhere", "out", "", "d"):
            self.assertRaises(NotThere, hangs_on, MIXED, name)
        self.assertRaises(NotThere, hangs_on, (), "a")


if __name__ == "__main__":
    unittest.main()
