import random
import unittest

from mitrehouse.bodies import EMPTY, joined, moved
from mitrehouse.errors import NotRight, NotThere, Stops
from mitrehouse.faces import bearers, faces, least_name, meant
from mitrehouse.histories import built, stop_of
from mitrehouse.lineage import can_exchange, fate, fates, followers, needless_features, same_faces
from mitrehouse.ratios import ratio
from samples import ONE, TWO, ZERO, block, box_sketch, feature, label_of, num, on
from test_faces import random_body

BOX = block((0, 0, 0), (4, 2, 1))
# The upper face of the box is divided in two by a bar across it.
BARRED = joined(BOX, block((1, 0, 1), (2, 2, 2), "bar"))
BASE = feature("base")
HOLE = feature("hole", "cut", on("base", "high"), box_sketch(ONE, ONE), low=num(-1), high=ZERO)
DENT = feature("dent", "cut", on("base", "low"), box_sketch(ONE, ONE, num(3)), low=num(-1), high=ZERO)


def s(direction, name="f"):
    return label_of(name, direction)


def history(*features, **numbers):
    return (tuple(sorted((name, ratio(worth)) for name, worth in numbers.items())), features)


def index_of(body, label):
    return [k for k, face in enumerate(faces(body)) if face[0] == label]


class Fates(unittest.TestCase):
    def test_means(self):
        self.assertEqual(fates(BOX, BOX), [("means", k) for k in range(6)])
        bigger = block((0, 0, 0), (9, 9, 9))
        self.assertEqual(fates(BOX, bigger), [("means", k) for k in range(6)])
        self.assertEqual(fate(BOX, 4, BARRED), ("means", index_of(BARRED, s(4))[0]))

    def test_lost(self):
        self.assertEqual(fate(BOX, 2, block((0, 0, 0), (4, 2, 1), "g")), ("lost",))
        self.assertEqual(fates(BOX, EMPTY), [("lost",)] * 6)
        bar = index_of(BARRED, s(5, "bar"))[0]
        self.assertEqual(fate(BARRED, bar, BOX), ("lost",))
        # The name of each half has a mark of the bar, which is there no more.
        for half in index_of(BARRED, s(5)):
            self.assertEqual([mark[0] for mark in least_name(BARRED, half)[1]], ["bar"])
            self.assertEqual(fate(BARRED, half, BOX), ("lost",))

    def test_many(self):
        self.assertEqual(fate(BOX, 5, BARRED), ("many",))

    def test_twin(self):
        both = joined(BOX, moved(BOX, (ratio(9), ratio(0), ratio(0))))
        self.assertEqual(fates(both, BOX), [("twin",)] * 12)
        self.assertEqual(fates(BOX, both), [("many",)] * 6)

    def test_none(self):
        self.assertEqual(fates(EMPTY, BOX), [])

    def test_not_there(self):
        for index in (-1, 6, 99):
            with self.assertRaises(NotThere):
                fate(BOX, index, BARRED)
        with self.assertRaises(NotThere):
            fate(EMPTY, 0, BOX)

    def test_by_the_words_of_the_document(self):
        chance = random.Random(80)
        words = {}
        for _ in range(25):
            body, other = [random_body(chance, "f", chance.choice([2, 3]), "abcdefgh") for _ in range(2)]
            wanted = []
            for index in range(len(faces(body))):
                name = least_name(body, index)
                if name is None:
                    wanted.append(("twin",))
                else:
                    found = bearers(other, name)
                    wanted.append(("lost",) if not found else ("means", found[0]) if len(found) == 1 else ("many",))
                words[wanted[-1][0]] = True
                self.assertEqual(fate(body, index, other), wanted[-1])
            self.assertEqual(fates(body, other), wanted)
        self.assertEqual(len(words), 4)

    def test_same_faces(self):
        self.assertEqual(same_faces(BOX, BOX), [(k, k) for k in range(6)])
        self.assertEqual(same_faces(BOX, EMPTY), [])
        # Of the upper face there are two now; the bar is new.
        self.assertEqual(same_faces(BOX, BARRED), [(index_of(BOX, s(d))[0], index_of(BARRED, s(d))[0])
                                                   for d in (0, 1, 2, 3, 4)])
        chance = random.Random(81)
        for _ in range(15):
            body, other = [random_body(chance, "f", 2, "abcdefgh") for _ in range(2)]
            wanted = [(k, n) for k in range(len(faces(body))) for n in range(len(faces(other)))
                      if least_name(body, k) is not None and meant(other, least_name(body, k)) == n
                      and least_name(other, n) is not None and meant(body, least_name(other, n)) == k]
            self.assertEqual(same_faces(body, other), wanted)

    def test_one_way_alone_is_not_the_same(self):
        # Of the two halves of the upper face just one is left; there its label alone means it.
        half = joined(block((0, 0, 0), (2, 2, 1)), block((1, 0, 1), (2, 2, 2), "bar"))
        left, there = index_of(BARRED, s(5))[0], index_of(half, s(5))[0]
        self.assertEqual((least_name(BARRED, left), least_name(half, there)), ((s(5), (s(0, "bar"),)), (s(5), ())))
        self.assertEqual((fate(BARRED, left, half), fate(half, there, BARRED)), (("means", there), ("many",)))
        self.assertNotIn((left, there), same_faces(BARRED, half))
        self.assertNotIn((there, left), same_faces(half, BARRED))


class Followers(unittest.TestCase):
    def test_several_steps(self):
        told = history(BASE, feature("a", place=on("base", "high")), feature("b", place=on("a", "high")),
                       feature("c", place=on("d", "low", ("b", "a.b"))), feature("d"), feature("e", place=on("d", "low")))
        self.assertEqual(followers(told, "base"), ["a", "b", "c"])
        self.assertEqual(followers(told, "a"), ["b", "c"])
        self.assertEqual(followers(told, "b"), ["c"])
        self.assertEqual(followers(told, "d"), ["c", "e"])
        self.assertEqual((followers(told, "c"), followers(told, "e")), ([], []))
        followers(told, "base").clear()
        self.assertEqual(followers(told, "base"), ["a", "b", "c"])

    def test_wherever_they_stand(self):
        told = history(feature("b", place=on("a", "high")), feature("a", place=on("base", "high")), BASE)
        self.assertEqual(followers(told, "base"), ["a", "b"])

    def test_features_that_name_themselves_or_one_another(self):
        told = history(feature("self", place=on("self", "high")), feature("one", place=on("two", "high")),
                       feature("two", place=on("one", "high")), feature("end", place=on("two", "low")))
        self.assertEqual(followers(told, "self"), ["self"])
        self.assertEqual(followers(told, "one"), ["end", "one", "two"])
        self.assertEqual(followers(told, "two"), ["end", "one", "two"])
        self.assertEqual(followers(told, "end"), [])

    def test_errors(self):
        with self.assertRaises(NotRight):
            followers(history(BASE, BASE), "none")
        with self.assertRaises(NotRight):
            followers(None, "base")
        for name in ("none", "", "hole"):
            with self.assertRaises(NotThere):
                followers(history(BASE), name)
        # A name that is needed, but not there.
        with self.assertRaises(NotThere):
            followers(history(HOLE), "base")


class Exchanging(unittest.TestCase):
    def test_can_exchange(self):
        told = history(BASE, HOLE, DENT)
        self.assertIs(can_exchange(told, 1), True)
        self.assertIs(can_exchange(told, 0), False)

    def test_another_body(self):
        over = feature("over", "join", ("base", 2, ZERO), box_sketch(ONE, ONE), high=num(3))
        # The hole goes through what is joined ahead of it, not through what is joined behind it.
        told = history(BASE, over, feature("through", "cut", ("base", 2, num(-9)), box_sketch(ONE, ONE, num(1, 2), num(1, 2)),
                                           high=num(99)))
        self.assertIsNone(stop_of(history(told[1][0], told[1][2], told[1][1])))
        self.assertIs(can_exchange(told, 1), False)

    def test_other_labels_are_another_body(self):
        # Both joined ones cover the same place, and the first one's labels go ahead.
        told = history(feature("one"), feature("two"))
        self.assertIs(can_exchange(told, 0), False)

    def test_a_stop(self):
        post = feature("post", place=on("base", "high"), sketch=box_sketch(ONE, ONE))
        self.assertIs(can_exchange(history(BASE, post, feature("last", place=on("post", "high"))), 1), False)
        # With both exchanged, the upper face has the label of the other one, and the last one finds no face.
        told = history(feature("one"), feature("two"), feature("last", place=on("one", "high")))
        self.assertIsNone(stop_of(told))
        self.assertIs(can_exchange(told, 0), False)

    def test_errors(self):
        with self.assertRaises(NotRight):
            can_exchange(history(BASE, BASE), 9)
        with self.assertRaises(Stops) as caught:
            can_exchange(history(HOLE, BASE), 9)
        self.assertEqual((caught.exception.name, caught.exception.reason), ("hole", "face"))
        for at in (-1, 1, 2, 99, False):
            with self.assertRaises(NotThere):
                can_exchange(history(BASE, HOLE), at)
        with self.assertRaises(NotThere):
            can_exchange(history(), 0)


class Needless(unittest.TestCase):
    def test_needless_features(self):
        again = feature("again", "join", ("base", 2, ZERO), box_sketch(ONE, ONE))
        air = feature("air", "cut", ("base", 2, num(7)), box_sketch(ONE, ONE))
        self.assertEqual(needless_features(history(BASE, again, HOLE, air)), ["again", "air"])
        self.assertEqual(needless_features(history(BASE, again, air)), ["again", "air"])
        self.assertEqual(needless_features(history(BASE, HOLE, DENT)), [])
        self.assertEqual(needless_features(history(BASE)), [])
        self.assertEqual(needless_features(history()), [])

    def test_a_feature_that_is_covered_later(self):
        small = feature("small", "join", ("base", 2, ZERO), box_sketch(ONE, ONE))
        gone = feature("gone", "cut", ("base", 2, num(-1)), box_sketch(num(4), TWO), high=num(3))
        # All of the first two is cut away, so neither leaves anything; without the last one the body is another.
        told = history(small, BASE, feature("far", place=("base", 2, num(9))), gone)
        self.assertEqual(needless_features(told), ["small", "base"])

    def test_a_stop_without_it(self):
        # The post stands on the base; taken away again, all of both leaves the far one alone.
        told = history(feature("far", place=("base", 2, num(9))), BASE, feature("post", place=on("base", "high")),
                       feature("gone", "cut", ("base", 2, num(-1)), box_sketch(num(4), TWO), high=num(4)))
        self.assertEqual(needless_features(told), ["post"])

    def test_against_building_from_nothing(self):
        chance = random.Random(82)
        pool = [BASE, HOLE, DENT, feature("again", "join", ("base", 2, ZERO), box_sketch(ONE, ONE)),
                feature("two", "join", ("base", 2, num(1, 2)), box_sketch(TWO, TWO)),
                feature("keep", "keep", ("base", 2, ZERO), box_sketch(num(9), num(9)), high=num(chance.randint(1, 3))),
                feature("air", "cut", ("base", 2, num(7)), box_sketch(ONE, ONE))]
        tried = 0
        for _ in range(150):
            told = history(*chance.sample(pool, chance.randint(1, 5)))
            if stop_of(told) is not None:
                with self.assertRaises(Stops):
                    needless_features(told)
                continue
            tried += 1
            features = told[1]
            without = [features[:k] + features[k + 1:] for k in range(len(features))]
            self.assertEqual(needless_features(told), [features[k][0] for k in range(len(features))
                                                       if self.same(without[k], told)])
            for at in range(len(features) - 1):
                changed = features[:at] + (features[at + 1], features[at]) + features[at + 2:]
                self.assertIs(can_exchange(told, at), self.same(changed, told))
        self.assertGreater(tried, 20)

    def same(self, features, told):
        return stop_of((told[0], features)) is None and built((told[0], features)) == built(told)

    def test_errors(self):
        with self.assertRaises(NotRight):
            needless_features(history(HOLE, HOLE))
        with self.assertRaises(Stops) as caught:
            needless_features(history(HOLE))
        self.assertEqual((caught.exception.name, caught.exception.reason), ("hole", "face"))


if __name__ == "__main__":
    unittest.main()
