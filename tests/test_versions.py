import copy
import random
import unittest

from mitrehouse.errors import NotRight, NotThere
from mitrehouse.histories import is_history
from mitrehouse.ratios import ratio
from mitrehouse.versions import changed, changes, merged
from samples import feature, num

NAMES = "abcdefgh"


def part(name, worth=1):
    """Returns a feature of the name; another worth makes it another feature."""
    return feature(name, high=num(worth))


def history(names, **numbers):
    """Returns the history of features with these names, a digit behind a name making it another one."""
    features = []
    for word in names.split():
        features.append(part(word[0], int(word[1:] or 1)))
    return (tuple(sorted((name, ratio(worth)) for name, worth in numbers.items())), tuple(features))


def order_of(told):
    return "".join(one[0] for one in told[1])


def items(told):
    found = {("number", name): worth for name, worth in told[0]}
    found.update({("feature", one[0]): one for one in told[1]})
    return found


def slow_merged(base, left, right):
    """Returns what merged tells, by the words of the document."""
    b, l, r = items(base), items(left), items(right)
    have, clash = {}, []
    for item in set(b) | set(l) | set(r):
        if l.get(item) == r.get(item):
            have[item] = l.get(item)
        elif l.get(item) == b.get(item):
            have[item] = r.get(item)
        elif r.get(item) == b.get(item):
            have[item] = l.get(item)
        else:
            clash.append(item)
    if clash:
        return ("clash", sorted(clash, key=lambda item: (item[0] != "number", item[1])), [])
    names = [item[1] for item, worth in have.items() if item[0] == "feature" and worth is not None]
    orders = {"base": order_of(base), "left": order_of(left), "right": order_of(right)}

    def stands(where, f, g):
        return f in orders[where] and g in orders[where] and orders[where].index(f) < orders[where].index(g)

    def ahead(f, g):
        for where, other in (("left", "right"), ("right", "left")):
            if stands(where, f, g) and not (stands("base", f, g) and stands(other, g, f)):
                return True
        return False

    left_first = [name for name in orders["left"]] + [name for name in orders["right"] if name not in orders["left"]]
    found = []
    while names:
        free = [g for g in names if not any(ahead(f, g) for f in names)]
        if not free:
            return ("clash", [], sorted(names))
        found.append(min(free, key=left_first.index))
        names.remove(found[-1])
    numbers = sorted((item[1], worth) for item, worth in have.items() if item[0] == "number" and worth is not None)
    if len(numbers) > 40 or len(found) > 30:
        return ("large",)
    return ("merged", (tuple(numbers), tuple(have["feature", name] for name in found)))


def edited(chance, told):
    """Returns a history with a few random changes of a history."""
    features = [one for one in told[1] if chance.random() < 0.9]
    features = [part(one[0], chance.randint(1, 3)) if chance.random() < 0.15 else one for one in features]
    for name in NAMES:
        if chance.random() < 0.1 and name not in [one[0] for one in features]:
            features.insert(chance.randint(0, len(features)), part(name, chance.choice([1, 1, 2])))
    if len(features) > 1 and chance.random() < 0.5:
        moved = features.pop(chance.randrange(len(features)))
        features.insert(chance.randint(0, len(features)), moved)
    numbers = {name: worth for name, worth in told[0] if chance.random() < 0.9}
    for name in "uvw":
        if chance.random() < 0.15:
            numbers[name] = ratio(chance.randint(1, 2))
    return (tuple(sorted(numbers.items())), tuple(features))


class Changes(unittest.TestCase):
    def test_numbers_and_features(self):
        one = history("b a d", u=1, v=2, x=3)
        other = history("d2 c b", v=5, w=6, x=3)
        self.assertEqual(changes(one, other),
                         [("number", "u", None), ("number", "v", ratio(5)), ("number", "w", ratio(6)),
                          ("feature", "a", None), ("feature", "c", part("c")), ("feature", "d", part("d", 2))])
        self.assertEqual(changes(one, one), [])
        self.assertEqual(changes(history(""), history("")), [])
        # An order that differs is no change.
        self.assertEqual(changes(history("a b"), history("b a")), [])

    def test_a_number_and_a_feature_with_one_name(self):
        self.assertEqual(changes(history("a", a=1), history("a2", a=2)),
                         [("number", "a", ratio(2)), ("feature", "a", part("a", 2))])

    def test_answers_are_new(self):
        one, other = history("a", u=1), history("b", u=2)
        before = copy.deepcopy((one, other))
        changes(one, other).clear()
        self.assertEqual(len(changes(one, other)), 3)
        self.assertEqual((one, other), before)

    def test_not_right(self):
        for value in (None, (), history("a a"), ((("u", 1),), ())):
            with self.assertRaises(NotRight):
                changes(value, history(""))
            with self.assertRaises(NotRight):
                changes(history(""), value)


class Changed(unittest.TestCase):
    def test_each_kind(self):
        one = history("b a d", u=1, v=2)
        some = [("feature", "c", part("c")), ("number", "u", None), ("feature", "a", None), ("number", "w", ratio(7)),
                ("feature", "d", part("d", 2)), ("number", "v", ratio(9)), ("feature", "e", part("e"))]
        before = copy.deepcopy((one, some))
        # What is new comes behind all others, in the order of the list; what is changed stays where it is.
        self.assertEqual(changed(one, some), history("b d2 c e", v=9, w=7))
        self.assertEqual((one, some), before)
        self.assertEqual(changed(one, []), one)
        self.assertEqual(changed(one, some[::-1]), history("b d2 e c", v=9, w=7))

    def test_a_feature_that_goes_and_comes_again(self):
        some = [("feature", "b", None), ("feature", "b", part("b", 2))]
        self.assertEqual(changed(history("b a"), some), history("a b2"))

    def test_with_the_changes_to_another_one(self):
        chance = random.Random(90)
        for _ in range(80):
            one = edited(chance, history("a b c d", u=1, v=1))
            other = edited(chance, one)
            found = changed(one, changes(one, other))
            self.assertEqual(found[0], other[0])
            self.assertEqual(sorted(found[1]), sorted(other[1]))
            self.assertEqual(changes(found, other), [])
            self.assertEqual([name for name in order_of(found) if name in order_of(one)],
                             [name for name in order_of(one) if name in order_of(other)])
            self.assertEqual([name for name in order_of(found) if name not in order_of(one)],
                             sorted(name for name in order_of(other) if name not in order_of(one)))

    def test_taken_away_and_not_there(self):
        one = history("a", u=1)
        for some in ([("number", "v", None)], [("feature", "b", None)], [("number", "a", None)],
                     [("feature", "u", None)], [("number", "u", None), ("number", "u", None)],
                     # Ahead of what comes being no history.
                     [("number", "v", (2, 2)), ("feature", "b", None)]):
            with self.assertRaises(NotThere):
                changed(one, some)

    def test_no_history_behind_them(self):
        many = history("", **{"n" + str(k): 1 for k in range(40)})
        full = (many[0], tuple(feature("f" + str(k)) for k in range(30)))
        self.assertTrue(is_history(full))
        for told, some in ((history("a"), [("number", "v", (2, 2))]), (history("a"), [("number", "V", ratio(1))]),
                           (history("a", u=1), [("number", 7, ratio(1))]),
                           (history("a"), [("feature", "b", ("b", "join"))]), (history("a"), [("feature", "b", 7)]),
                           (history("a"), [("feature", "b", part("a"))]), (full, [("number", "more", ratio(1))]),
                           (full, [("feature", "more", feature("more"))])):
            with self.assertRaises(NotRight):
                changed(told, some)
        for value in (None, history("a a")):
            with self.assertRaises(NotRight):
                changed(value, [("number", "v", None)])


class Merged(unittest.TestCase):
    def check(self, base, left, right):
        """Returns what is told, by names alone, behind a comparison with the words of the document."""
        before = copy.deepcopy((base, left, right))
        told = merged(base, left, right)
        self.assertEqual(told, slow_merged(base, left, right))
        self.assertEqual((base, left, right), before)
        return told

    def test_alike_and_one_of_them_the_base(self):
        base, other = history("a b c", u=1, v=2), history("c2 d a", u=3, w=1)
        self.assertEqual(self.check(base, other, other), ("merged", other))
        self.assertEqual(self.check(base, base, other), ("merged", other))
        self.assertEqual(self.check(base, other, base), ("merged", other))
        self.assertEqual(self.check(base, base, base), ("merged", base))
        self.assertEqual(self.check(history(""), history(""), history("")), ("merged", history("")))

    def test_changes_far_apart(self):
        base = history("a b c d", u=1, v=2, w=3)
        left, right = history("a2 b c", u=5, v=2, w=3), history("a b c d e", u=1, w=4, x=6)
        self.assertEqual(self.check(base, left, right), ("merged", history("a2 b c e", u=5, w=4, x=6)))
        self.assertEqual(self.check(base, right, left), ("merged", history("a2 b c e", u=5, w=4, x=6)))

    def test_both_have_changed_one_item(self):
        base = history("a b", u=1, v=2)
        self.assertEqual(self.check(base, history("a b", u=2, v=2), history("a b", u=3, v=2)),
                         ("clash", [("number", "u")], []))
        self.assertEqual(self.check(base, history("a2 b", u=1, v=2), history("b", u=1, v=2)),
                         ("clash", [("feature", "a")], []))
        self.assertEqual(self.check(base, history("a b", v=2), history("a b", u=2, v=2)),
                         ("clash", [("number", "u")], []))
        # Both alike is no clash, also if both have taken it away.
        self.assertEqual(self.check(base, history("a2 b", u=7), history("a2 b", u=7)), ("merged", history("a2 b", u=7)))

    def test_both_have_put_it_in_anew(self):
        base = history("a", u=1)
        self.assertEqual(self.check(base, history("a b", u=1, w=1), history("a b2", u=1, w=2)),
                         ("clash", [("number", "w"), ("feature", "b")], []))
        self.assertEqual(self.check(base, history("a b", u=1, w=1), history("b a", u=1, w=1)),
                         ("clash", [], ["a", "b"]))
        self.assertEqual(self.check(base, history("a b", u=1, w=1), history("a b", u=1, w=1)),
                         ("merged", history("a b", u=1, w=1)))

    def test_several_clashes_and_no_order_then(self):
        base = history("a b c", u=1, v=1)
        left, right = history("b a2 c2", u=2, v=2), history("c3 a3 b", u=3, v=3)
        self.assertEqual(self.check(base, left, right),
                         ("clash", [("number", "u"), ("number", "v"), ("feature", "a"), ("feature", "c")], []))

    def test_orders_that_one_hand_has_changed(self):
        base = history("a b c d")
        self.assertEqual(self.check(base, history("b a c d"), history("a b d c")), ("merged", history("b a d c")))
        self.assertEqual(self.check(base, base, history("d c b a")), ("merged", history("d c b a")))
        self.assertEqual(self.check(base, history("d c b a"), base), ("merged", history("d c b a")))
        self.assertEqual(self.check(base, history("d a b c"), history("d a b c")), ("merged", history("d a b c")))

    def test_orders_that_both_have_changed(self):
        base = history("a b c")
        # Left puts a behind all, right puts c ahead of all: both agree on c ahead of a, and each with its own.
        self.assertEqual(self.check(base, history("b c a"), history("c a b")),
                         ("merged", history("c b a")))
        # Both have put x and y in, in another order.
        self.assertEqual(self.check(base, history("a x y b c"), history("a y x b c")), ("clash", [], ["b", "c", "x", "y"]))

    def test_a_ring_of_three(self):
        # Left has x ahead of b, right has a, put behind b, ahead of x.
        base = history("a b")
        told = self.check(base, history("a x b"), history("b a x"))
        self.assertEqual(told, ("clash", [], ["a", "b", "x"]))
        # What stands ahead of the ring is placed, what hangs behind it is told with it.
        told = self.check(history("z a b e"), history("z a x b e"), history("z b a x e"))
        self.assertEqual(told, ("clash", [], ["a", "b", "e", "x"]))

    def test_order_of_new_ones(self):
        base = history("a b")
        # Both come behind a; left's own goes first, and those that left has not behind those that it has.
        self.assertEqual(self.check(base, history("a x b"), history("a y b")), ("merged", history("a x y b")))
        self.assertEqual(self.check(base, history("a y b"), history("a x b")), ("merged", history("a y x b")))
        self.assertEqual(self.check(base, history("a b x"), history("y a b")), ("merged", history("y a b x")))
        self.assertEqual(self.check(history(""), history("c a"), history("d b")), ("merged", history("c a d b")))

    def test_a_feature_that_one_hand_has_taken_away_orders_nothing(self):
        base = history("a b c")
        self.assertEqual(self.check(base, history("c a"), history("a b c")), ("merged", history("c a")))
        self.assertEqual(self.check(base, history("a b c"), history("c a")), ("merged", history("c a")))

    def test_large(self):
        def numbers(first, many):
            return (tuple(("n" + str(k), ratio(k)) for k in range(first, first + many)), ())

        def features(first, many):
            return ((), tuple(feature("f" + str(k)) for k in range(first, first + many)))

        nothing = history("")
        self.assertEqual(merged(nothing, features(10, 15), features(30, 15))[0], "merged")
        self.assertEqual(merged(nothing, features(10, 15), features(30, 16)), ("large",))
        self.assertEqual(merged(nothing, numbers(10, 20), numbers(40, 20))[0], "merged")
        self.assertEqual(merged(nothing, numbers(10, 20), numbers(40, 21)), ("large",))
        # A clash goes ahead of it.
        left, right = features(10, 30), features(39, 30)
        self.assertEqual(merged(nothing, left, right), ("large",))
        other = (right[0], (feature("f39", "cut"),) + right[1][1:])
        self.assertEqual(merged(nothing, left, other), ("clash", [("feature", "f39")], []))
        # f10 and f39 stand in both, in another order.
        crossed = (right[0], (right[1][0], left[1][0]) + right[1][1:29])
        self.assertEqual(merged(nothing, left, crossed)[:2], ("clash", []))

    def test_random_histories(self):
        chance = random.Random(91)
        words = {}
        for _ in range(1500):
            base = history(" ".join(chance.sample(NAMES, chance.randint(0, 5))), u=1, v=1)
            left, right = edited(chance, base), edited(chance, base)
            told = self.check(base, left, right)
            words[told[0] + str(told[0] == "clash" and bool(told[2]))] = True
            back = merged(base, right, left)
            self.assertEqual(back[0], told[0])
            if told[0] == "merged":
                self.assertTrue(is_history(told[1]))
                self.assertEqual((back[1][0], sorted(back[1][1])), (told[1][0], sorted(told[1][1])))
            else:
                self.assertEqual(back, told)
        self.assertEqual(sorted(words), ["clashFalse", "clashTrue", "mergedFalse"])

    def test_not_right(self):
        good = history("a", u=1)
        for value in (None, (), history("a a"), (good[0], list(good[1])), (list(good[0]), good[1])):
            for told in ((value, good, good), (good, value, good), (good, good, value)):
                with self.assertRaises(NotRight):
                    merged(*told)

    def test_answers_are_new(self):
        base = history("a", u=1)
        told = merged(base, history("a", u=2), history("a", u=3))
        told[1].clear()
        self.assertEqual(merged(base, history("a", u=2), history("a", u=3))[1], [("number", "u")])


if __name__ == "__main__":
    unittest.main()
