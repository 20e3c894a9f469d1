import copy
import random
import unittest
from fractions import Fraction
from itertools import product

from mitrehouse.bodies import (EMPTY, common, cut, extent, holds, is_body, joined, kept, moved, pieces, prism,
                               same_places, surface, thin, turned, volume)
from mitrehouse.errors import NotRight, NotThere, TooLarge
from mitrehouse.outlines import region, side_edges
from mitrehouse.ratios import is_less, ratio
from samples import as_ratio, beside, block, fraction, grid_body, label_of, labelled_cells

UNIT = (ratio(0), ratio(1))
BOX = block((0, 0, 0), (2, 1, 1))
NOTHING = (ratio(0), ratio(0), ratio(0))


def triple(x, y, z):
    return tuple(as_ratio(Fraction(one)) for one in (x, y, z))


def unit_cells(body):
    """Returns the cells of a body with integer cuts, divided into unit boxes, with their labels."""
    xs, ys, zs = [[int(fraction(one)) for one in cuts] for cuts in body[:3]]
    found = {}
    for (i, j, k), labels in body[3]:
        ranges = [range(xs[i], xs[i + 1]), range(ys[j], ys[j + 1]), range(zs[k], zs[k + 1])]
        for place in product(*ranges):
            ends = [place[d // 2] == ranges[d // 2][0 if d % 2 == 0 else -1] for d in range(6)]
            found[place] = tuple(label if end else None for label, end in zip(labels, ends))
    return found


def random_body(chance, name, size=3, words="ab"):
    """Returns a body of boxes of some sizes whose facets have one of a few labels for each direction."""
    places = [place for place in product(range(size), repeat=3) if chance.random() < 0.5]
    cells = labelled_cells(places, lambda place, d: (name, "s" + str(d) + chance.choice(words)))
    cuts = [tuple(ratio(at) for at in sorted(chance.sample(range(6), size + 1))) for _ in range(3)]
    return thin(*cuts, cells)


def layer(body, axis, at):
    """Returns the cells of a layer without their places along the axis, with the labels of the other axes."""
    return {place[:axis] + place[axis + 1:]: labels[:2 * axis] + labels[2 * axis + 2:]
            for place, labels in body[3] if place[axis] == at}


def is_slowly_thin(body):
    for axis in range(3):
        layers = [layer(body, axis, at) for at in range(len(body[axis]) - 1)]
        if not layers or not layers[0] or not layers[-1]:
            return body == EMPTY
        if any(layers[k] == layers[k + 1] for k in range(len(layers) - 1)):
            return False
    return True


class Thin(unittest.TestCase):
    def test_needless_cuts(self):
        cuts = tuple(ratio(at) for at in (-1, 0, 1, 2, 5))
        cells = labelled_cells(list(product((1, 2), (1,), (2,))), lambda place, d: label_of("f", d))
        before = copy.deepcopy(cells)
        found = thin(cuts, cuts, cuts, cells)
        self.assertEqual(found, block((0, 0, 1), (2, 1, 2)))
        self.assertEqual(cells, before)

    def test_a_cut_between_labels_stays(self):
        for axis in range(3):
            cuts = [UNIT] * 3
            cuts[axis] = (ratio(0), ratio(1), ratio(2))
            end = tuple(1 if k == axis else 0 for k in range(3))
            for changed in range(6):
                cells = labelled_cells([(0, 0, 0), end], lambda place, d: label_of("f", d))
                if changed // 2 == axis:
                    continue
                cells[end] = cells[end][:changed] + (("g", "other"),) + cells[end][changed + 1:]
                found = thin(*cuts, cells)
                self.assertEqual(found, (*cuts, tuple(sorted(cells.items()))))
                self.assertTrue(is_body(found))

    def test_labels_of_the_own_axis_keep_no_cut(self):
        cuts = (ratio(0), ratio(1), ratio(2))
        cells = labelled_cells([(0, 0, 0), (1, 0, 0)], lambda place, d: ("f", str((place, d)) if d < 2 else "side"))
        found = thin(cuts, UNIT, UNIT, cells)
        self.assertEqual(found[0], (ratio(0), ratio(2)))
        self.assertEqual(found[3][0][1][:2], (("f", "((0, 0, 0), 0)"), ("f", "((1, 0, 0), 1)")))

    def test_empty_layers_within(self):
        cuts = tuple(ratio(at) for at in range(6))
        cells = labelled_cells([(0, 0, 0), (4, 0, 0)], lambda place, d: label_of("f", d))
        found = thin(cuts, UNIT, UNIT, cells)
        self.assertEqual(found[0], tuple(ratio(at) for at in (0, 1, 4, 5)))
        self.assertEqual([place for place, _ in found[3]], [(0, 0, 0), (2, 0, 0)])

    def test_empty(self):
        self.assertEqual(EMPTY, ((), (), (), ()))
        self.assertEqual(thin(UNIT, UNIT, UNIT, {}), EMPTY)
        self.assertEqual(thin((), (), (), {}), EMPTY)

    def test_random_bodies(self):
        chance = random.Random(51)
        for _ in range(60):
            found = random_body(chance, "f")
            self.assertTrue(is_slowly_thin(found))
            self.assertTrue(is_body(found))
            finer = [tuple(ratio(at) for at in range(-1, 8)) for _ in range(3)]
            moved_cells = {tuple(one + 1 for one in place): labels for place, labels in unit_cells(found).items()}
            self.assertEqual(thin(*finer, moved_cells), found)


class IsBody(unittest.TestCase):
    def setUp(self):
        self.body = grid_body([(0, 0, 0), (1, 0, 0), (1, 1, 0), (1, 1, 1)])

    def test_bodies(self):
        for body in (self.body, BOX, EMPTY, block((0, 0, 0), ((1, 3), 1, 1))):
            self.assertIs(is_body(body), True)

    def test_other_values(self):
        for value in (None, 0, True, "", (), [], {}, ((), (), ()), ((), (), (), (), ()), [(), (), (), ()],
                      ([], (), (), ()), ((), (), (), []), (UNIT, UNIT, UNIT, ()), (UNIT, (), (), ()),
                      (UNIT, UNIT, UNIT, None), (UNIT, UNIT, UNIT, 7),
                      ((ratio(0),), (), (), ()), (None, None, None, None), (1, 2, 3, 4)):
            self.assertIs(is_body(value), False, value)

    def test_lists_for_tuples(self):
        xs, ys, zs, cells = self.body
        (place, labels), rest = cells[0], cells[1:]
        for value in ((list(xs), ys, zs, cells), (xs, list(ys), zs, cells), (xs, ys, list(zs), cells),
                      (xs, ys, zs, list(cells)), (xs, ys, zs, ([place, labels],) + rest),
                      (xs, ys, zs, ((list(place), labels),) + rest), (xs, ys, zs, ((place, list(labels)),) + rest),
                      (xs, ys, zs, ((place, labels[:5] + (list(labels[5]),)),) + rest), list(self.body),
                      (([0, 1],) + xs[1:], ys, zs, cells), (xs, ys, zs, dict(cells))):
            self.assertIs(is_body(value), False)

    def test_cuts(self):
        xs, ys, zs, cells = self.body
        for changed in (xs[::-1], (xs[0], xs[2], xs[1]), (xs[0], xs[0], xs[1]), xs[:2], xs + (ratio(9),), (),
                        (ratio(-1),) + xs, xs[:1] + (ratio(1, 3),) + xs[1:], (0, 1, 2), ((0, 1), (2, 2), (2, 1)),
                        ((0, 1), (True, 1), (2, 1)), ((1, 2), (1, 3), (2, 1))):
            self.assertIs(is_body((changed, ys, zs, cells)), False, changed)
        for changed in ((ys[1], ys[0], ys[2]), ys + (ratio(9),), None, list(ys), (0, 1, 2), (ys[0], ys[0], ys[1])):
            self.assertIs(is_body((xs, changed, zs, cells)), False, changed)
        for changed in ((zs[1], zs[0], zs[2]), zs + (ratio(9),), None, list(zs), (0, 1, 2), (zs[0], zs[0], zs[1])):
            self.assertIs(is_body((xs, ys, changed, cells)), False, changed)
        # Ascending as tuples is not ascending by worth: 1/2 is above 1/3.
        third, half = ratio(1, 3), ratio(1, 2)
        self.assertIs(is_body(((third, half), UNIT, UNIT, BOX[3])), True)
        self.assertIs(is_body(((half, third), UNIT, UNIT, BOX[3])), False)

    def test_cells(self):
        xs, ys, zs, cells = self.body
        (place, labels), rest = cells[0], cells[1:]
        for changed in (((place, labels, 0),) + rest, ((place,),) + rest, (place + (labels,),) + rest):
            self.assertIs(is_body((xs, ys, zs, changed)), False)
        for changed in (cells[::-1], cells[:-1], cells[1:], cells + cells[-1:], cells[:1] + cells,
                        (cells[1], cells[0]) + cells[2:], cells + (None,), cells + (((1, 1),),)):
            self.assertIs(is_body((xs, ys, zs, changed)), False)
        for k, (place, labels) in enumerate(cells):
            for other in ((place[0] + 1,) + place[1:], place[:2] + (place[2] - 2,), place[:2], place + (0,),
                          (True,) + place[1:], ("0", 0, 0), (0, 0, 7), None, (-1, 0, 0)):
                changed = cells[:k] + ((other, labels),) + cells[k + 1:]
                self.assertIs(is_body((xs, ys, zs, changed)), False, other)

    def test_a_place_that_is_true(self):
        # True is equal to 1, but it is no integer.
        xs, ys, zs, cells = self.body
        changed = tuple(((True if place[0] == 1 else 0,) + place[1:], labels) for place, labels in cells)
        self.assertEqual(changed, cells)
        self.assertIs(is_body((xs, ys, zs, changed)), False)

    def test_labels(self):
        xs, ys, zs, cells = self.body
        for k, (place, labels) in enumerate(cells):
            self.assertIs(is_body((xs, ys, zs, cells[:k] + ((place, labels[:5]),) + cells[k + 1:])), False)
            for d in range(6):
                others = [("f", "s"), ] if labels[d] is None else [None, ("f",), ("f", 1), "fs", ("f", "s", "s"), 0]
                for other in others:
                    changed = cells[:k] + ((place, labels[:d] + (other,) + labels[d + 1:]),) + cells[k + 1:]
                    self.assertIs(is_body((xs, ys, zs, changed)), False, (place, d, other))

    def test_another_label_is_a_body_as_well(self):
        (place, labels), = BOX[3]
        self.assertIs(is_body(BOX[:3] + (((place, (("", "x"),) + labels[1:]),),)), True)

    def test_bodies_that_are_not_thin(self):
        cuts = (ratio(0), ratio(1), ratio(2))
        cells = labelled_cells([(0, 0, 0), (1, 0, 0)], lambda place, d: label_of("f", d))
        self.assertIs(is_body((cuts, UNIT, UNIT, tuple(sorted(cells.items())))), False)


class Prisms(unittest.TestCase):
    def setUp(self):
        places = {"a": (ratio(0), ratio(0)), "b": (ratio(2), ratio(0)), "c": (ratio(2), ratio(1)),
                  "d": (ratio(0), ratio(1))}
        rings = (("a", "b", "c", "d"),)
        self.region, self.sides = region(places, rings), side_edges(places, rings)

    def test_all_three_axes(self):
        # u and v are the next axes, in the order x, y, z, x, y.
        wanted = {0: ((5, 7), (0, 2), (0, 1)), 1: ((0, 1), (5, 7), (0, 2)), 2: ((0, 2), (0, 1), (5, 7))}
        labels = {0: ("low", "high", "d.a", "b.c", "a.b", "c.d"), 1: ("a.b", "c.d", "low", "high", "d.a", "b.c"),
                  2: ("d.a", "b.c", "a.b", "c.d", "low", "high")}
        for axis in range(3):
            found = prism(self.region, self.sides, axis, ratio(5), ratio(7), "f")
            self.assertEqual(found[:3], tuple((ratio(low), ratio(high)) for low, high in wanted[axis]))
            self.assertEqual(found[3], (((0, 0, 0), tuple(("f", word) for word in labels[axis])),))
            self.assertTrue(is_body(found))

    def test_ends_that_do_not_ascend(self):
        for low, high in (((1, 1), (1, 1)), ((2, 1), (1, 1)), ((1, 2), (1, 3))):
            with self.assertRaises(NotRight):
                prism(self.region, self.sides, 2, low, high, "f")
        self.assertEqual(volume(prism(self.region, self.sides, 2, (1, 3), (1, 2), "f")), (1, 3))

    def test_a_hole(self):
        table = {"a": (0, 0), "b": (3, 0), "c": (3, 3), "d": (0, 3), "e": (1, 1), "f": (2, 1), "g": (2, 2), "h": (1, 2)}
        places = {name: (ratio(x), ratio(y)) for name, (x, y) in table.items()}
        rings = (("a", "b", "c", "d"), ("e", "f", "g", "h"))
        before = side_edges(places, rings)
        found = prism(region(places, rings), before, 2, ratio(0), ratio(2), "p")
        self.assertEqual(before, side_edges(places, rings))
        self.assertTrue(is_body(found))
        self.assertEqual(volume(found), (16, 1))
        labels = dict(found[3])
        self.assertEqual(len(labels), 8)
        self.assertEqual(labels[0, 1, 0][:4], (("p", "d.a"), ("p", "h.e"), None, None))
        self.assertEqual(labels[1, 0, 0][:4], (None, None, ("p", "a.b"), ("p", "e.f")))
        self.assertEqual(labels[1, 2, 0][4:], (("p", "low"), ("p", "high")))

    def test_thin(self):
        table = {"a": (0, 0), "e": (1, 0), "b": (2, 0), "c": (2, 1), "d": (0, 1)}
        places = {name: (ratio(x), ratio(y)) for name, (x, y) in table.items()}
        rings = (tuple("aebcd"),)
        found = prism(region(places, rings), side_edges(places, rings), 2, ratio(0), ratio(1), "f")
        # Both edges below have labels of their own, so the cut between them stays.
        self.assertEqual(found[0], (ratio(0), ratio(1), ratio(2)))
        self.assertTrue(is_body(found))


class Combining(unittest.TestCase):
    def slow(self, deed, body, other):
        """Returns the unit cells of what comes, by the words of the document."""
        ours, theirs = unit_cells(body), unit_cells(other)
        full = {"joined": set(ours) | set(theirs), "cut": set(ours) - set(theirs), "kept": set(ours) & set(theirs)}[deed]
        found = {}
        for place in full:
            labels = []
            for d in range(6):
                beyond = beside(place, d)
                if beyond in full:
                    labels.append(None)
                elif place in ours and beyond not in ours:
                    labels.append(ours[place][d])
                elif deed == "cut":
                    labels.append(theirs[beyond][d + 1 if d % 2 == 0 else d - 1])
                else:
                    labels.append(theirs[place][d])
            found[place] = tuple(labels)
        return found

    def check(self, body, other):
        for word, deed in (("joined", joined), ("cut", cut), ("kept", kept)):
            found = deed(body, other)
            self.assertTrue(is_body(found))
            self.assertEqual(unit_cells(found), self.slow(word, body, other))
        both = set(unit_cells(body)) & set(unit_cells(other))
        self.assertEqual(common(body, other), ratio(len(both)))

    def test_random_bodies(self):
        chance = random.Random(53)
        for _ in range(40):
            body, other = random_body(chance, "f"), random_body(chance, "g")
            by = triple(chance.randint(-2, 2), chance.randint(-1, 1), chance.choice([-3, 0, 1]))
            self.check(body, other)
            self.check(body, moved(other, by))

    def test_apart_touching_overlapping_within(self):
        other = block((0, 0, 0), (2, 2, 2), "g")
        for by in ((5, 0, 0), (2, 0, 0), (1, 0, 0), (0, 0, 0), (0, 0, -1), (2, 1, 1), (-1, -1, -1)):
            self.check(BOX, moved(other, triple(*by)))
        self.check(block((0, 0, 0), (3, 3, 3)), block((1, 1, 1), (2, 2, 2), "g"))
        self.check(block((1, 1, 1), (2, 2, 2)), block((0, 0, 0), (3, 3, 3), "g"))

    def test_the_bodys_label_goes_ahead(self):
        other = block((0, 0, 0), (1, 1, 1), "g")
        # Both have a facet at x = 0 that looks against the x axis.
        self.assertEqual(dict(joined(BOX, other)[3])[0, 0, 0][0], ("f", "s0"))
        self.assertEqual(dict(joined(other, BOX)[3])[0, 0, 0][0], ("g", "s0"))
        self.assertEqual(dict(kept(BOX, other)[3])[0, 0, 0], tuple(
            [("f", "s0"), ("g", "s1"), ("f", "s2"), ("f", "s3"), ("f", "s4"), ("f", "s5")]))

    def test_labels_of_a_cut(self):
        found = cut(BOX, block((1, 0, 0), (2, 1, 1), "g"))
        # What is cut off looked along the x axis at 1; the facet of the cutter there looks against it.
        self.assertEqual(found, (UNIT, UNIT, UNIT, (((0, 0, 0), (("f", "s0"), ("g", "s0"), ("f", "s2"), ("f", "s3"),
                                                                 ("f", "s4"), ("f", "s5"))),)))

    def test_with_the_empty_body(self):
        self.assertEqual((joined(EMPTY, BOX), joined(BOX, EMPTY)), (BOX, BOX))
        self.assertEqual((cut(EMPTY, BOX), cut(BOX, EMPTY)), (EMPTY, BOX))
        self.assertEqual((kept(EMPTY, BOX), kept(BOX, EMPTY)), (EMPTY, EMPTY))
        for deed in (joined, cut, kept):
            self.assertEqual(deed(EMPTY, EMPTY), EMPTY)
        self.assertEqual((common(EMPTY, BOX), common(EMPTY, EMPTY)), ((0, 1), (0, 1)))

    def test_with_itself(self):
        body = grid_body([(0, 0, 0), (1, 0, 0), (1, 1, 0), (1, 1, 1)])
        self.assertEqual((joined(body, body), cut(body, body), kept(body, body)), (body, EMPTY, body))
        self.assertEqual(common(body, body), volume(body))

    def test_touching_boxes_become_one(self):
        self.assertEqual(joined(block((0, 0, 0), (1, 1, 1)), block((1, 0, 0), (2, 1, 1))), BOX)
        self.assertEqual(common(block((0, 0, 0), (1, 1, 1)), block((1, 0, 0), (2, 1, 1))), (0, 1))

    def test_fractions(self):
        half = block((0, 0, 0), ((1, 2), (1, 3), 1), "g")
        self.assertEqual(common(BOX, half), (1, 6))
        self.assertEqual(volume(cut(BOX, half)), (11, 6))
        self.assertEqual(volume(joined(BOX, half)), (2, 1))


class Large(unittest.TestCase):
    def test_20000_boxes(self):
        # 25 cells and gaps along x, and 20 along y and along 40 along z make 20000 boxes.
        long = grid_body([(k, 0, 0) for k in range(0, 25, 2)], "f")
        wide = grid_body([(0, k, 0) for k in range(20)] + [(0, k, j) for k in range(0, 20, 2) for j in range(0, 40, 2)]
                         + [(0, 19, 39)], "g")
        self.assertEqual([len(one) for one in long[:3]], [26, 2, 2])
        self.assertEqual([len(one) for one in wide[:3]], [2, 21, 41])
        found = joined(long, wide)
        self.assertTrue(is_body(found))
        self.assertEqual(volume(found), ratio(len(set(unit_cells(long)) | set(unit_cells(wide)))))
        self.assertEqual(common(long, wide), (1, 1))
        more = moved(wide, (ratio(1, 2), ratio(0), ratio(0)))
        for deed in (joined, cut, kept, common):
            with self.assertRaises(TooLarge):
                deed(long, more)
            with self.assertRaises(TooLarge):
                deed(more, long)

    def test_20001_boxes(self):
        # 3 * 59 * 113 boxes; without one of the boxes along the x axis there are 2 * 59 * 113.
        flat = grid_body([(0, j, 0) for j in range(0, 59, 2)] + [(0, 0, k) for k in range(0, 113, 2)], "f")
        long = grid_body([(i, 0, 0) for i in range(0, 3, 2)], "g")
        short = block((0, 0, 0), (2, 1, 1), "g")
        self.assertEqual([len(one) for one in flat[:3]], [2, 60, 114])
        for body, other in ((flat, long), (long, flat)):
            for deed in (joined, cut, kept, common):
                with self.assertRaises(TooLarge):
                    deed(body, other)
        self.assertEqual(volume(joined(flat, short)), ratio(30 + 57 - 1 + 1))

    def test_a_body_that_is_too_large_by_itself(self):
        cuts = [tuple(ratio(at) for at in range(many + 1)) for many in (21, 40, 25)]
        places = [(i, j, k) for i in range(21) for j in range(40) for k in range(25) if (i + j + k) % 2 == 0]
        body = grid_body(places, "f", cuts)
        for deed in (joined, cut, kept, common):
            with self.assertRaises(TooLarge):
                deed(body, EMPTY)
        self.assertIs(same_places(body, body), True)
        self.assertEqual(volume(body), ratio(len(places)))


class Measures(unittest.TestCase):
    def test_volume_and_surface(self):
        self.assertEqual((volume(BOX), surface(BOX)), ((2, 1), (10, 1)))
        self.assertEqual((volume(EMPTY), surface(EMPTY)), ((0, 1), (0, 1)))
        small = block((0, 0, 0), ((1, 2), (1, 3), (1, 5)))
        self.assertEqual((volume(small), surface(small)), ((1, 30), as_ratio(2 * (Fraction(1, 6) + Fraction(1, 10)
                                                                                  + Fraction(1, 15)))))

    def test_random_bodies(self):
        chance = random.Random(54)
        for _ in range(30):
            body = random_body(chance, "f", words=chance.choice(["a", "ab"]))
            cells = unit_cells(body)
            self.assertEqual(volume(body), ratio(len(cells)))
            self.assertEqual(surface(body), ratio(sum(beside(place, d) not in cells
                                                      for place in cells for d in range(6))))

    def test_extent(self):
        self.assertEqual(extent(moved(BOX, triple(1, -2, Fraction(1, 2)))),
                         (triple(1, -2, Fraction(1, 2)), triple(3, -1, Fraction(3, 2))))
        with self.assertRaises(NotThere):
            extent(EMPTY)

    def test_moved(self):
        by = triple(1, Fraction(-1, 2), 0)
        self.assertEqual(moved(BOX, by), block((1, (-1, 2), 0), (3, (1, 2), 1)))
        self.assertEqual(moved(BOX, NOTHING), BOX)
        self.assertEqual(moved(EMPTY, by), EMPTY)

    def test_pieces(self):
        body = grid_body([(4, 0, 0), (0, 0, 0), (1, 1, 0), (1, 2, 0), (4, 0, 1), (2, 3, 0)])
        found = pieces(body)
        # Boxes that touch along an edge alone are not of one piece.
        self.assertEqual([volume(piece) for piece in found], [(1, 1), (2, 1), (1, 1), (2, 1)])
        self.assertEqual(found[1], block((1, 1, 0), (2, 3, 1)))
        self.assertEqual(found[3], block((4, 0, 0), (5, 1, 2)))
        self.assertEqual(pieces(BOX), [BOX])
        self.assertEqual(pieces(EMPTY), [])

    def test_pieces_keep_their_labels(self):
        body = joined(block((0, 0, 0), (1, 1, 1), "f"), block((3, 0, 0), (4, 1, 1), "g"))
        self.assertEqual(pieces(body), [block((0, 0, 0), (1, 1, 1), "f"), block((3, 0, 0), (4, 1, 1), "g")])
        pieces(body).clear()

    def test_pieces_make_the_body(self):
        chance = random.Random(55)
        for _ in range(30):
            body = random_body(chance, "f")
            made = EMPTY
            places = set()
            for piece in pieces(body):
                self.assertTrue(is_body(piece))
                self.assertEqual(len(pieces(piece)), 1)
                self.assertFalse(places & set(unit_cells(piece)))
                places |= set(unit_cells(piece))
                made = joined(made, piece)
            self.assertEqual(made, body)

    def test_turned(self):
        body = block((1, 2, 3), (4, 6, 8))
        (place, labels), = turned(body, 1)[3]
        self.assertEqual(turned(body, 1)[:3], ((ratio(-6), ratio(-2)), (ratio(1), ratio(4)), (ratio(3), ratio(8))))
        # What looked along y looks along -x then, what looked along -x looks along -y.
        self.assertEqual(labels, tuple(label_of("f", d) for d in (3, 2, 0, 1, 4, 5)))
        self.assertEqual(turned(body, 2)[:2], ((ratio(-4), ratio(-1)), (ratio(-6), ratio(-2))))

    def test_turned_many_times(self):
        chance = random.Random(56)
        for _ in range(20):
            body = moved(random_body(chance, "f"), triple(2, -1, 5))
            self.assertEqual(turned(body, 0), body)
            self.assertEqual(turned(body, 4), body)
            once = body
            for turns in range(1, 8):
                once = turned(once, 1)
                self.assertEqual(turned(body, turns), once)
                self.assertTrue(is_body(once))
            wanted = {(-y - 1, x, z) for x, y, z in unit_cells(body)}
            self.assertEqual(set(unit_cells(turned(body, 1))), wanted)
        self.assertEqual(turned(EMPTY, 3), EMPTY)

    def test_holds(self):
        body = grid_body([(0, 0, 0), (1, 0, 0), (1, 1, 0), (0, 0, 1), (1, 0, 1), (1, 1, 1), (3, 0, 0)])
        half = Fraction(1, 2)
        for spot, wanted in (((half, half, half), True), ((1, half, half), True), ((1, half, 1), True),
                             ((half, half, 1), True), ((Fraction(3, 2), 1, 1), True),
                             ((1, 1, 1), False), ((1, 1, half), False), ((0, half, half), False),
                             ((half, 1, half), False), ((half, Fraction(3, 2), half), False), ((2, half, half), False),
                             ((Fraction(5, 2), half, half), False), ((3, half, half), False),
                             ((Fraction(7, 2), half, half), True), ((Fraction(7, 2), half, 1), False),
                             ((9, half, half), False), ((-1, half, half), False), ((0, 0, 0), False),
                             ((half, half, 2), False), ((half, half, 3), False), ((half, half, 0), False)):
            self.assertIs(holds(body, triple(*spot)), wanted, spot)
        self.assertIs(holds(EMPTY, NOTHING), False)

    def test_holds_the_corner_between_eight_boxes(self):
        cells = labelled_cells(list(product((0, 1), repeat=3)), lambda place, d: ("f", str(place) + str(d)))
        cuts = tuple(ratio(at) for at in range(3))
        body = thin(cuts, cuts, cuts, cells)
        self.assertEqual(len(body[3]), 8)
        self.assertIs(holds(body, triple(1, 1, 1)), True)
        del cells[0, 0, 0]
        full = {place: tuple(None if beside(place, d) in cells else ("f", str(place) + str(d)) for d in range(6))
                for place in cells}
        self.assertIs(holds(thin(cuts, cuts, cuts, full), triple(1, 1, 1)), False)

    def test_same_places(self):
        other = joined(block((0, 0, 0), (1, 1, 1), "g"), block((1, 0, 0), (2, 1, 1), "h"))
        self.assertNotEqual(other[0], BOX[0])
        self.assertIs(same_places(BOX, other), True)
        self.assertIs(same_places(other, BOX), True)
        self.assertIs(same_places(BOX, moved(BOX, triple(1, 0, 0))), False)
        self.assertIs(same_places(BOX, block((0, 0, 0), (2, 1, 2))), False)
        self.assertIs(same_places(EMPTY, EMPTY), True)
        self.assertIs(same_places(EMPTY, BOX), False)

    def test_cuts_ascend_by_worth(self):
        found = joined(block((0, 0, 0), ((1, 3), 1, 1)), block((0, 0, 0), ((1, 2), 1, (1, 2)), "g"))
        self.assertTrue(all(is_less(found[0][k], found[0][k + 1]) for k in range(len(found[0]) - 1)))
        self.assertEqual(found[0], (ratio(0), ratio(1, 3), ratio(1, 2)))


if __name__ == "__main__":
    unittest.main()
