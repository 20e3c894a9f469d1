import copy
import random
import unittest

from mitrehouse.assemblies import is_assembly
from mitrehouse.bodies import turned
from mitrehouse.errors import Malformed, NotRight, Stops
from mitrehouse.histories import built, is_history
from mitrehouse.ratios import ratio
from mitrehouse.texts import read_assembly, read_history, write_assembly, write_history
from samples import ONE, TWO, ZERO, box_sketch, feature, num, on

W = ("of", "w")
BASE = feature("base", sketch=box_sketch(W, TWO))
HOLE = feature("hole", "cut", on("base", "high"), box_sketch(ONE, ONE), low=num(-1), high=ZERO)
PLAIN = ((("w", ratio(4)),), (BASE, HOLE))
# All words of constraints, places of both kinds with marks, several rings, and points without any constraint.
ALL = (("a", "b", "c", "d"), (
    ("fix", "a", ZERO, ("minus", W, ONE)), ("level", "a", "b"), ("plumb", "b", "c"), ("across", "a", "b", ("times", ratio(1, 2), W)),
    ("up", "b", "c", ("plus", ONE, num(-1, 3))), ("even", "a", "b", "d", "c"), ("turn", "a", "b", "b", "c"),
    ("part", "c", "a", "b", ratio(-2, 3)), ("wide", "a", "b", "c", "d", ratio(2)), ("high", "a", "b", "c", "d", ratio(0)),
    ("span", "a", "c", num(25))))
RICH = ((("h", ratio(-1, 2)), ("w", ratio(0))), (
    feature("f1", "join", ("base", 0, ("times", ratio(3), W)), ALL, 7, (("a", "b"), (), ("x.y-z_0",)), W, num(5)),
    feature("f2", "keep", ("on", (("f1", "low"), (("a", "z"), ("a-b", "c")))), (("p",), ()), 0, ((),), ZERO, ONE),
    feature("f3", "cut", on("f1", "a.b", ("f2", "low")), low=num(-10 ** 29), high=num(1, 10 ** 29))))
NONE = ((), ())
# Which lines may follow which ones in the text of a history: the first words.
FOLLOWS = {
    None: ("number", "feature", None), "number": ("number", "feature", None), "feature": ("base", "on"),
    "base": ("points",), "on": ("points",), "points": ("ask", "pick"), "ask": ("ask", "pick"), "pick": ("ring", "low"),
    "ring": ("ring", "low"), "low": ("high",), "high": ("end",), "end": ("feature", None)}
# The same for the text of an assembly.
ASSEMBLED = {**FOLLOWS, None: ("part", "hold", "mate", None), "part": ("number", "feature", "done"),
             "number": ("number", "feature", "done"), "end": ("feature", "done"), "done": ("part", "hold", "mate", None),
             "hold": ("hold", "mate", None), "mate": ("hold", "mate", None)}


def text_of(rows):
    return "".join(row + "\n" for row in rows)


def first_wrong(rows, follows):
    """Returns the index of the first row of right words that cannot stand where it stands, or None."""
    last = None
    for at, word in enumerate([row.split(" ")[0] for row in rows] + [None]):
        if word not in follows[last]:
            return at
        last = word
    return None


def malformed_at(read, text):
    try:
        read(text)
    except Malformed as wrong:
        return wrong.at
    except (NotRight, Stops):
        return None
    return None


def changed_rows(rows):
    """Yields the rows with one left out, doubled, or exchanged with the next one."""
    for k in range(len(rows)):
        yield rows[:k] + rows[k + 1:]
        yield rows[:k] + [rows[k]] + rows[k:]
        yield rows[:k] + rows[k + 1:k + 2] + [rows[k]] + rows[k + 2:]
        for n in range(len(rows)):
            yield rows[:k] + [rows[n]] + rows[k + 1:]
            yield rows[:k] + [rows[n]] + rows[k:]


class ReadAndWrite(unittest.TestCase):
    def test_there_and_back(self):
        for history in (NONE, PLAIN, RICH, ((("w", ratio(1)),), ()), ((), (BASE,)), ((), RICH[1][1:])):
            before = copy.deepcopy(history)
            self.assertTrue(is_history(history))
            self.assertEqual(read_history(write_history(history)), history)
            self.assertEqual(history, before)

    def test_the_lines(self):
        self.assertEqual(write_history(NONE), "")
        self.assertEqual(write_history((RICH[0], RICH[1][:1])).split("\n"), [
            "number h -1/2", "number w 0", "feature f1 join", "base 0 times 3 of w", "points a b c d",
            "ask fix a num 0 minus of w num 1", "ask level a b", "ask plumb b c", "ask across a b times 1/2 of w",
            "ask up b c plus num 1 num -1/3", "ask even a b d c", "ask turn a b b c", "ask part c a b -2/3",
            "ask wide a b c d 2", "ask high a b c d 0", "ask span a c num 25", "pick 7", "ring a b", "ring", "ring x.y-z_0",
            "low of w", "high num 5", "end", ""])
        self.assertEqual(write_history(((), RICH[1][1:2])).split("\n"), [
            "feature f2 keep", "on f1:low & a:z & a-b:c", "points p", "pick 0", "ring", "low num 0", "high num 1", "end", ""])

    def test_random_histories(self):
        chance = random.Random(161)
        for _ in range(60):
            numbers = tuple((name, ratio(chance.randint(-99, 99), chance.randint(1, 9)))
                            for name in sorted(chance.sample("abcdefgh", chance.randint(0, 8))))
            features = tuple(chance.choice(RICH[1] + PLAIN[1])[1:] for _ in range(chance.randint(0, 5)))
            history = (numbers, tuple((f"f{k}",) + rest for k, rest in enumerate(features)))
            text = write_history(history)
            self.assertEqual(read_history(text), history)
            self.assertEqual(write_history(read_history(text)), text)


class MalformedHistories(unittest.TestCase):
    def check(self, text, at):
        with self.assertRaises(Malformed, msg=text) as caught:
            read_history(text)
        self.assertEqual(caught.exception.at, at, text)

    def test_lines_that_cannot_stand_where_they_stand(self):
        for history in (PLAIN, RICH):
            rows = write_history(history).split("\n")[:-1]
            for changed in changed_rows(rows):
                self.assertEqual(malformed_at(read_history, text_of(changed)), first_wrong(changed, FOLLOWS), changed)

    def test_some_of_them(self):
        rows = write_history(((("w", ratio(4)),), (BASE,))).split("\n")[:-1]
        self.assertEqual(len(rows), 16)
        for k, at in ((1, 1), (2, 2), (3, 3), (11, 11), (13, 13), (14, 14), (15, 15)):
            self.check(text_of(rows[:k] + rows[k + 1:]), at)
        for k in (1, 2, 3, 11, 13, 14, 15):
            self.check(text_of(rows[:k + 1] + rows[k:]), k + 1)
        self.check(text_of(rows[1:] + rows[:1]), 15)
        self.check(text_of(rows + ["done"]), 16)
        self.check(text_of(["part a 0"] + rows), 0)
        self.check("\n", 0)
        self.check(text_of(rows + [""]), 16)
        self.check(text_of(rows[:1] + [""] + rows[1:]), 1)

    def test_texts_that_end_too_early(self):
        rows = write_history(PLAIN).split("\n")[:-1]
        for k in range(len(rows) + 1):
            text = text_of(rows[:k])
            if k in (0, 1, 16, 31):
                self.assertTrue(is_history(read_history(text)))
            else:
                self.check(text, k)
            # A text that does not end behind a newline lacks one more line, whatever stands there.
            if k < len(rows):
                self.check(text + rows[k], k)
                self.check(text + rows[k][:3], k)
        self.check(write_history(PLAIN)[:-1], 30)
        self.check(write_history(PLAIN) + " ", 31)
        self.check("x", 0)
        self.assertEqual(read_history(""), NONE)

    def test_words_too_many_too_few_and_empty(self):
        for history in (PLAIN, RICH):
            rows = write_history(history).split("\n")[:-1]
            for k, row in enumerate(rows):
                words = row.split(" ")
                wrong = [row + " ", " " + row, row.replace(" ", "  ", 1) if len(words) > 1 else " " + row, row.upper(), row + " A"]
                if words[0] not in ("points", "ring"):
                    wrong += [" ".join(words[:-1]), row + " 1", row + " a", row + " &"]
                wrong += [" ".join(words[:n] + [""] + words[n + 1:]) for n in range(len(words))]
                for changed in wrong:
                    self.check(text_of(rows[:k] + [changed] + rows[k + 1:]), k)

    def test_words_that_are_not_due(self):
        rows = write_history(RICH).split("\n")[:-1]
        at = {row.split(" ")[0]: k for k, row in reversed(list(enumerate(rows)))}
        for word, wrongs in (
                ("number", ("number H 1", "number 1h 1", "number abcdefghijklm 1", "number h 2/4", "number h 01", "number h -0",
                            "number h x", "number h 1/0", "number h " + "1" * 31, "number h 1/" + "2" * 31, "number 1 h")),
                ("feature", ("feature F1 join", "feature f1 glue", "feature f1 Join", "feature join f1", "feature f-1 join")),
                ("base", ("base", "base 3 num 0", "base -1 num 0", "base 00 num 0", "base x num 0", "base 0", "base 0 of W", "base 0 num",
                          "base num 0", "base 0 num 1 num 2", "base 0 " + "plus num 1 " * 8 + "num 1", "on f1", "on f1:low & b:c & a:b",
                          "on f1:low & a:b & a:b", "on f1:low a:b", "on")),
                ("points", ("points a B", "points a b&c", "points a " + "b" * 61, "points a:b", "points 1", "points 1 b", "points a b.c",
                            "points a-b", "points a b_", "points -", "points abcdefghijklm", "points b a 1", "points a a 2x")),
                ("ask", ("ask", "ask lvl a b", "ask level a", "ask level a b c", "ask fix a num 0", "level a b", "ask part a b c x",
                         "ask span a c 25", "ask level a 1", "ask level 1 a", "ask level a.b b", "ask level abcdefghijklm b",
                         "ask fix a-b num 0 num 0", "ask part c a _ 1", "ask even a b 12 a", "ask wide a b c d. 2", "ask level z 9z")),
                ("pick", ("pick 01", "pick -1", "pick +1", "pick x", "pick", "pick 1 2", "pick 1/2", "pick 00", "pick " + "1" * 31)),
                ("ring", ("ring A", "ring a b:c", "ring " + "a" * 61, "ring a,b")),
                ("low", ("low", "low w", "low num", "low of w of w", "low num 1/1")),
                ("high", ("high", "high 5", "high num 5 6")),
                ("end", ("end 1", "end end", "END", "end."))):
            for wrong in wrongs:
                self.check(text_of(rows[:at[word]] + [wrong] + rows[at[word] + 1:]), at[word])

    def test_the_most_digits(self):
        rows = write_history(RICH).split("\n")[:-1]
        at = rows.index("pick 7")
        self.assertEqual(read_history(text_of(rows[:at] + ["pick " + "9" * 30] + rows[at + 1:]))[1][0][4], 10 ** 30 - 1)
        text = "number w -" + "9" * 30 + "/1" + "0" * 29 + "\n"
        self.assertEqual(write_history(read_history(text)), text)


class NotRightHistories(unittest.TestCase):
    def rows(self):
        return write_history(PLAIN).split("\n")[:-1]

    def test_right_words_of_no_history(self):
        rows = self.rows()
        changes = [(0, ["number w 4", "number w 4"]), (0, ["number w 4", "number h 1"]),
                   (0, ["number " + name + " 1" for name in sorted("n" + str(k) for k in range(41))]),
                   (16, ["feature base cut"]), (3, ["points"]), (3, ["points b a c d"]), (3, ["points a a b c d"]),
                   (3, ["points a b c"]), (3, ["points a b d c"]), (3, ["points " + " ".join(f"a{k:02d}" for k in range(25))]),
                   (5, ["ask level a a"]), (5, ["ask level a z"]), (5, ["ask part a a b 1"]), (5, ["ask level a abcdefghijkl"]),
                   (5, ["ask level a b"] * 41), (12, []), (12, ["ring a b c d"] * 7), (12, ["ring" + " a" * 25])]
        for k, put in changes:
            changed = rows[:k] + put + rows[k + 1:]
            self.assertRaises(NotRight, read_history, text_of(changed))
            # Behind Malformed where both apply.
            with self.assertRaises(Malformed) as caught:
                read_history(text_of(changed + ["ende"]))
            self.assertEqual(caught.exception.at, len(changed))
        self.assertEqual(len(read_history(text_of(rows[:12] + ["ring a"] * 6 + rows[13:]))[1][0][5]), 6)
        self.assertEqual(len(read_history(text_of(rows[:12] + ["ring" + " a" * 24] + rows[13:]))[1][0][5][0]), 24)

    def test_corners_may_be_no_names(self):
        rows = self.rows()
        corners = ("1", "b.c", "a-b_", "-", ".", "9" * 60, "abcdefghijklm")
        found = read_history(text_of(rows[:12] + ["ring " + " ".join(corners)] + rows[13:]))
        self.assertEqual(found[1][0][5], (corners,))
        self.assertEqual(read_history(write_history(found)), found)

    def test_too_many_features(self):
        part = self.rows()[1:16]
        texts = [["feature f" + str(k) + " join"] + part[1:] for k in range(31)]
        self.assertEqual(len(read_history(text_of(sum(texts[:30], [])))[1]), 30)
        self.assertRaises(NotRight, read_history, text_of(sum(texts, [])))


BOX = ((), (feature("f"),))
BAR = ((("w", ratio(4)),), (feature("g", sketch=box_sketch(W, TWO)),))
STOPPED = ((), (feature("late", low=ONE, high=ZERO),))
MATES = (("hold", "a", ratio(0), ratio(-1, 2), ratio(3)),
         ("mate", "a", (("f", "high"), ()), "b", (("g", "low"), (("g", "a.b"),)), ratio(1, 2)))


class Assemblies(unittest.TestCase):
    def check(self, text, at):
        with self.assertRaises(Malformed, msg=text) as caught:
            read_assembly(text)
        self.assertEqual(caught.exception.at, at, text)

    def test_there_and_back(self):
        for parts, mates in (([("a", BOX, 0), ("b", BAR, 3)], MATES), ([("a", BOX, 1)], ()), ([("a", BOX, 1)], MATES[:1]),
                             ([("a", BOX, 2), ("b", BOX, 0), ("c", PLAIN, 1)], ())):
            before = copy.deepcopy((parts, mates))
            found = read_assembly(write_assembly(parts, mates))
            self.assertEqual(found, (tuple((name, built(history), turns) for name, history, turns in parts), mates))
            self.assertTrue(is_assembly(found))
            self.assertEqual((parts, mates), before)
        self.assertEqual(turned(found[0][0][1], 0), built(BOX))

    def test_the_lines(self):
        text = write_assembly([("a", ((("w", ratio(1)),), ()), 0), ("b", NONE, 3)], MATES)
        self.assertEqual(text.split("\n"), ["part a 0", "number w 1", "done", "part b 3", "done", "hold a 0 -1/2 3",
                                            "mate a f:high ; b g:low & g:a.b ; 1/2", ""])

    def test_lines_that_cannot_stand_where_they_stand(self):
        rows = write_assembly([("a", BAR, 0), ("b", BAR, 3)], MATES).split("\n")[:-1]
        for changed in changed_rows(rows):
            self.assertEqual(malformed_at(read_assembly, text_of(changed)), first_wrong(changed, ASSEMBLED), changed)

    def test_texts_that_end_too_early(self):
        rows = write_assembly([("a", BAR, 0), ("b", BAR, 3)], MATES).split("\n")[:-1]
        for k in range(len(rows) + 1):
            self.assertEqual(malformed_at(read_assembly, text_of(rows[:k])), first_wrong(rows[:k], ASSEMBLED))
            if k < len(rows):
                self.check(text_of(rows[:k]) + rows[k], k)
                self.check(text_of(rows[:k]) + "x", k)
        self.check(text_of(rows[:3]), 3)
        self.check("part a 0\n", 1)

    def test_words(self):
        rows = write_assembly([("a", BAR, 0), ("b", BAR, 3)], MATES).split("\n")[:-1]
        at = {row.split(" ")[0]: k for k, row in enumerate(rows)}
        for word, wrongs in (
                ("part", ("part B 0", "part b", "part b 0 0", "part b 03", "part b -1", "part b x", "part  b 0", "part b 0 ",
                          "part 0 b", "part b " + "1" * 31, "part b 4", "part b 5", "part b 10", "part b 30", "part b " + "9" * 30,
                          "part b 1/1", "part b 00")),
                ("done", ("done 1", "done ", "Done", " done")),
                ("hold", ("hold", "hold a 0 0", "hold a 0 0 0 0", "hold A 0 0 0", "hold a 0 0 x", "hold a 0 0 2/4", "hold  a 0 0 0",
                          "hold a 0 0 ", "hold a num 0 num 0 num 0")),
                ("mate", ("mate", "mate a f:high ; b g:low", "mate a f:high ; b g:low ;", "mate a f:high b g:low 1/2", "mate a f:high ; b g:low ; ",
                          "mate a f:high ; b g:low ; 1/2 ;", "mate a f:high ; b g:low ; 1/2 1", "mate a ; b g:low ; 1", "mate a f:high ; b ; 1",
                          "mate f:high ; b g:low ; 1", "mate ; b g:low ; 1", "mate a f:high ; ; 1", "mate A f:high ; b g:low ; 1",
                          "mate a f:high ; B g:low ; 1", "mate a f ; b g:low ; 1", "mate a f:high & ; b g:low ; 1", "mate a f:high ;  b g:low ; 1",
                          "mate a f:high & f:low & f:a ; b g:low ; 1", "mate a f:high ; b g:low ; 01", "mate a f:high; b g:low ; 1",
                          "mate a f:high ; b g:low ; c g:low ; 1"))):
            for wrong in wrongs:
                self.check(text_of(rows[:at[word]] + [wrong] + rows[at[word] + 1:]), at[word])

    def test_no_assemblies(self):
        good = [("a", BOX, 0), ("b", BOX, 1)]
        hold = MATES[0]
        for parts, mates in (([("b", BOX, 0), ("a", BOX, 0)], ()), ([("a", BOX, 0), ("a", BOX, 0)], ()), ([("a", NONE, 0)], ()),
                             ([], ()), ([], (hold,)),
                             (good, (("mate", "a", (("f", "low"), ()), "a", (("f", "high"), ()), ratio(0)),)),
                             ([(f"p{k:02d}", BOX, 0) for k in range(13)], ()), (good, (hold,) * 41)):
            self.assertRaises(NotRight, read_assembly, write_assembly(parts, mates))
            with self.assertRaises(Malformed):
                read_assembly(write_assembly(parts, mates) + "x\n")
        self.assertEqual(len(read_assembly(write_assembly([(f"p{k:02d}", BOX, 0) for k in range(12)], ()))[0]), 12)
        self.assertEqual(len(read_assembly(write_assembly(good, (hold,) * 40))[1]), 40)
        # Mates of parts and faces that are not there make an assembly with a fault.
        self.assertTrue(read_assembly(write_assembly([("a", BOX, 0)], (("hold", "z", ratio(0), ratio(0), ratio(0)),))))

    def test_the_order_of_the_errors(self):
        wrong = ((("w", ratio(1)), ("w", ratio(1))), ())
        other = ((), (feature("other", low=TWO, high=ZERO),))
        # No history, in any part, ahead of a stop; a stop ahead of no assembly; the stops in the order of the parts.
        self.assertRaises(NotRight, read_assembly, write_assembly([("a", STOPPED, 0), ("b", wrong, 0)], ()))
        for parts, name in (([("b", BOX, 3), ("a", STOPPED, 0)], "late"), ([("b", STOPPED, 0), ("a", other, 0)], "late"),
                            ([("b", other, 0), ("a", STOPPED, 0)], "other"), ([("a", NONE, 0), ("b", other, 0)], "other")):
            with self.assertRaises(Stops) as caught:
                read_assembly(write_assembly(parts, ()))
            self.assertEqual((caught.exception.name, caught.exception.reason), (name, "low"))
        self.check(write_assembly([("a", STOPPED, 0), ("b", wrong, 0)], ()) + "end\n", 21)
        # Turns above 3 are wrong words, ahead of all of these.
        self.check(write_assembly([("a", STOPPED, 4), ("b", wrong, 0)], ()), 0)
        self.check(write_assembly([("a", STOPPED, 0), ("b", wrong, 4)], ()), 17)

    def test_turns(self):
        for turns in range(4):
            self.assertEqual(read_assembly(write_assembly([("a", BOX, turns)], ())), ((("a", built(BOX), turns),), ()))
        for turns in (4, 5, 10, 12, 10 ** 29):
            self.check(write_assembly([("a", BOX, turns)], ()), 0)
            self.check(write_assembly([("a", BOX, 3), ("b", BOX, turns), ("c", BOX, 0)], ()), 17)
            self.assertFalse(is_assembly(((("a", built(BOX), turns),), ())))


if __name__ == "__main__":
    unittest.main()
