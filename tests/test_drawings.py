import random
import unittest

from mitrehouse.bodies import EMPTY, volume
from mitrehouse.drawings import Drawing
from mitrehouse.errors import NotRight, NotThere, Stops
from mitrehouse.histories import behind, built, feature_numbers, is_history, stop_of
from mitrehouse.ratios import ratio
from samples import ONE, TWO, ZERO, box_sketch, feature, num, on

W = ("of", "w")
BASE = feature("base", sketch=box_sketch(W, TWO))
POST = feature("post", place=on("base", "high"), sketch=box_sketch(ONE, ONE), high=("of", "h"))
SIDE = feature("side", place=("base", 0, num(9)), sketch=box_sketch(ONE, ONE), high=("of", "h"))
CAP = feature("cap", place=on("post", "high"), sketch=box_sketch(ONE, ONE))
NUMBERS = (("h", ratio(2)), ("w", ratio(4)))
HISTORY = (NUMBERS, (BASE, POST, SIDE, CAP))


def slow_anew(before, history):
    """Returns what is made anew, the steps of this asking, and the body or None, by the words of the document."""
    numbers = dict(history[0])
    body, anew, steps = EMPTY, [], []
    for told in history[1]:
        worths = {name: numbers.get(name) for name in feature_numbers(told)}
        known = [one for one in before if one[:3] == (told, worths, body)]
        if not known:
            anew.append(told[0])
        try:
            after = behind(body, told, numbers)
        except Stops:
            return anew, steps, None
        steps.append((told, worths, body, after))
        body = after
    return anew, steps, body


class Building(unittest.TestCase):
    def setUp(self):
        self.drawing = Drawing(HISTORY)

    def check(self, *anew):
        """Checks what is made anew, and that the body is that of the history from nothing."""
        if stop_of(self.drawing.history()) is None:
            self.assertEqual(self.drawing.body(), built(self.drawing.history()))
        else:
            with self.assertRaises(Stops) as caught:
                self.drawing.body()
            stop = caught.exception
            self.assertEqual((stop.name, stop.reason), stop_of(self.drawing.history()))
        self.assertEqual(self.drawing.anew(), list(anew))

    def test_at_first(self):
        self.assertEqual(self.drawing.anew(), [])
        self.assertEqual(self.drawing.history(), HISTORY)
        self.check("base", "post", "side", "cap")

    def test_nothing_has_changed(self):
        self.drawing.body()
        self.check()
        self.check()

    def test_no_features(self):
        drawing = Drawing(((), ()))
        self.assertEqual((drawing.body(), drawing.anew()), (EMPTY, []))

    def test_a_number_is_set(self):
        self.drawing.body()
        self.assertIsNone(self.drawing.set_number("h", ratio(3)))
        self.assertEqual(self.drawing.history(), ((("h", ratio(3)), NUMBERS[1]), HISTORY[1]))
        self.check("post", "side", "cap")
        self.drawing.set_number("w", ratio(5))
        self.check("base", "post", "side", "cap")

    def test_a_number_is_set_to_what_it_was(self):
        self.drawing.body()
        self.drawing.set_number("h", ratio(3))
        self.drawing.set_number("h", ratio(2))
        self.check()

    def test_a_new_number(self):
        self.drawing.body()
        self.drawing.set_number("new", ratio(3))
        self.assertEqual([name for name, _ in self.drawing.history()[0]], ["h", "new", "w"])
        self.check()
        self.drawing.drop_number("new")
        self.assertEqual(self.drawing.history(), HISTORY)
        self.check()

    def test_a_feature_is_put(self):
        self.drawing.body()
        more = feature("more", place=("base", 2, num(20)))
        self.drawing.put(4, more)
        self.check("more")
        self.drawing.put(1, feature("early", place=("base", 2, num(30))))
        self.assertEqual([one[0] for one in self.drawing.history()[1]], ["base", "early", "post", "side", "cap", "more"])
        self.check("early", "post", "side", "cap", "more")

    def test_a_feature_of_the_same_name_is_put(self):
        self.drawing.body()
        other = SIDE[:7] + (num(5),)
        self.drawing.put(2, other)
        self.assertEqual(self.drawing.history()[1], (BASE, POST, other, CAP))
        self.check("side", "cap")
        # The same one, behind all three others.
        self.drawing.put(3, other)
        self.assertEqual(self.drawing.history()[1], (BASE, POST, CAP, other))
        self.check("cap", "side")

    def test_a_feature_that_changes_nothing(self):
        self.drawing.put(1, BASE[:1] + BASE[1:])
        self.drawing.put(0, BASE)
        self.drawing.body()
        nothing = feature("again", deed="join", place=("base", 2, ZERO), sketch=box_sketch(ONE, ONE))
        self.drawing.put(1, nothing)
        # The body behind it is the same as ahead of it, so what follows has the same body ahead.
        self.check("again")
        self.drawing.drop("again")
        self.check()

    def test_a_feature_is_dropped(self):
        self.drawing.body()
        self.drawing.drop("side")
        self.check("cap")
        self.drawing.drop("cap")
        self.check()
        self.drawing.put(2, CAP)
        self.check("cap")

    def test_features_are_exchanged(self):
        self.drawing.body()
        self.drawing.take((NUMBERS, (BASE, SIDE, POST, CAP)))
        # Both are on other bodies than before; the body behind both is the same, so the cap is kept.
        self.check("side", "post")

    def test_the_whole_history_is_taken(self):
        self.drawing.body()
        self.drawing.take(HISTORY)
        self.check()
        self.drawing.take((NUMBERS, (SIDE,)))
        self.check("side")
        # Only the last asking counts.
        self.drawing.take(HISTORY)
        self.check("base", "post", "side", "cap")

    def test_when_the_history_stops(self):
        self.drawing.body()
        self.drawing.drop("post")
        self.check("side", "cap")
        # It comes to no body behind the cap, so this is made anew each time.
        self.check("cap")
        self.drawing.put(1, POST)
        self.check("post", "side", "cap")
        self.check()

    def test_a_number_that_is_dropped(self):
        self.drawing.body()
        self.drawing.drop_number("h")
        self.check("post")
        self.check("post")
        self.drawing.set_number("h", ratio(2))
        self.check("post", "side", "cap")

    def test_another_drawing_shares_nothing(self):
        other = Drawing(HISTORY)
        other.body()
        self.check("base", "post", "side", "cap")
        self.drawing.anew().clear()
        self.assertEqual(len(self.drawing.anew()), 4)
        other.drop("cap")
        self.assertEqual(self.drawing.history(), HISTORY)

    def test_random_edits(self):
        chance = random.Random(75)
        pool = [BASE, POST, SIDE, CAP, feature("cut", "cut", on("base", "low"), box_sketch(ONE, ONE)),
                feature("keep", "keep", ("base", 2, ZERO), box_sketch(num(3), num(3)), high=("of", "h")),
                feature("post", place=on("base", "high"), sketch=box_sketch(TWO, ONE))]
        for _ in range(20):
            drawing = Drawing((NUMBERS, tuple(pool[:3])))
            steps = []
            for _ in range(25):
                self.edit(chance, drawing, pool)
                if chance.random() < 0.7:
                    anew, steps, body = slow_anew(steps, drawing.history())
                    if body is None:
                        self.assertRaises(Stops, drawing.body)
                    else:
                        self.assertEqual(drawing.body(), body)
                    self.assertEqual(drawing.anew(), anew)

    def edit(self, chance, drawing, pool):
        what = chance.randrange(4)
        features = drawing.history()[1]
        if what == 0:
            drawing.set_number(chance.choice("hw"), ratio(chance.randint(1, 3)))
        elif what == 1 and features:
            drawing.drop(chance.choice(features)[0])
        elif what == 2:
            told = chance.choice(pool)
            others = [one for one in features if one[0] != told[0]]
            drawing.put(chance.randint(0, len(others)), told)
        else:
            drawing.take((drawing.history()[0], tuple(chance.sample(features, len(features)))))


class Errors(unittest.TestCase):
    def setUp(self):
        self.drawing = Drawing(HISTORY)
        self.drawing.body()

    def refused(self, error, ask, *told):
        with self.assertRaises(error):
            ask(*told)
        self.assertEqual(self.drawing.history(), HISTORY)
        self.assertEqual(volume(self.drawing.body()), volume(built(HISTORY)))
        self.assertEqual(self.drawing.anew(), [])

    def test_no_history(self):
        for value in (None, (), ((), (BASE, BASE)), (list(NUMBERS), HISTORY[1]), ((), [BASE])):
            self.assertRaises(NotRight, Drawing, value)
            self.refused(NotRight, self.drawing.take, value)

    def test_set_number(self):
        for name, worth in (("H", (1, 1)), ("", (1, 1)), ("h", (2, 4)), ("h", 1), ("new", None), ("h", (True, 1)),
                            ("abcdefghijklm", (1, 1)), (None, (1, 1))):
            self.refused(NotRight, self.drawing.set_number, name, worth)

    def test_too_many_numbers(self):
        for k in range(38):
            self.drawing.set_number("n" + str(k), ratio(k))
        full = self.drawing.history()
        self.assertRaises(NotRight, self.drawing.set_number, "more", ratio(1))
        self.assertEqual(self.drawing.history(), full)
        self.drawing.set_number("n7", ratio(1, 2))
        self.assertEqual(dict(self.drawing.history()[0])["n7"], (1, 2))

    def test_drop_number(self):
        for name in ("v", "", "H", None):
            self.refused(NotThere, self.drawing.drop_number, name)

    def test_drop(self):
        for name in ("none", "", "Base", None):
            self.refused(NotThere, self.drawing.drop, name)

    def test_put(self):
        more = feature("more")
        for at in (-1, 5, 100, True, None):
            self.refused(NotThere, self.drawing.put, at, more)
        # Four features, but just three others.
        self.refused(NotThere, self.drawing.put, 4, BASE)
        for wrong in (None, (), BASE[:7], BASE[:4] + (-1,) + BASE[5:], list(BASE), 7):
            self.refused(NotRight, self.drawing.put, 0, wrong)

    def test_not_there_goes_first(self):
        self.refused(NotThere, self.drawing.put, 5, ())
        self.refused(NotThere, self.drawing.put, 4, BASE[:7])
        self.refused(NotRight, self.drawing.put, 3, BASE[:7])

    def test_too_many_features(self):
        for k in range(26):
            self.drawing.put(4, feature("f" + str(k)))
        full = self.drawing.history()
        self.assertTrue(is_history(full))
        self.assertRaises(NotRight, self.drawing.put, 4, feature("more"))
        self.assertRaises(NotThere, self.drawing.put, 31, feature("more"))
        self.assertEqual(self.drawing.history(), full)
        self.drawing.put(0, feature("f3"))
        self.assertEqual(self.drawing.history()[1][0], feature("f3"))


if __name__ == "__main__":
    unittest.main()
