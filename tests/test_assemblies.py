import copy
import random
import unittest
from fractions import Fraction

from mitrehouse.assemblies import (accepts_placing, assembly_rows, contact, contacts, fault_of, is_assembly, overlaps,
                                   placed, placing_paper, put_together)
from mitrehouse.bodies import EMPTY, joined, moved, thin, turned
from mitrehouse.errors import NotRight, NotThere, TooLarge
from mitrehouse.faces import face_plane, faces, least_name, meant
from mitrehouse.linear import is_clash, made
from mitrehouse.ratios import ratio
from samples import as_ratio, beside, block, fraction, grid_body, label_of
from test_bodies import random_body, unit_cells

NOUGHT = ratio(0)
BOX = block((0, 0, 0), (2, 1, 1))
PEG = block((1, 1, 1), (2, 3, 5), "g")
HOLD = ("hold", "a", NOUGHT, NOUGHT, NOUGHT)


def side(direction, name="f"):
    """Returns the name of faces that the side of a block has."""
    return (label_of(name, direction), ())


def mate(part, direction, other, other_direction, gap=NOUGHT, name="f", other_name="f"):
    return ("mate", part, side(direction, name), other, side(other_direction, other_name), gap)


def of(parts, *mates):
    """Returns the assembly of a dict from names to bodies, or to pairs of a body and its turns."""
    told = [(name, *(part if isinstance(part[1], int) else (part, 0))) for name, part in sorted(parts.items())]
    return (tuple(told), mates)


PAIR = {"a": BOX, "b": PEG}
# Mates of a and b along all three axes, so that there is just one placing.
THREE = (HOLD, mate("a", 1, "b", 0, ratio(1), "f", "g"), mate("a", 3, "b", 3, ratio(2), "f", "g"),
         mate("a", 4, "b", 5, ratio(-1, 2), "f", "g"))


class IsAssembly(unittest.TestCase):
    def test_assemblies(self):
        many = {"p" + chr(97 + k): BOX for k in range(12)}
        for value in (of(PAIR), of({"a": BOX}), of(many), of(PAIR, *[HOLD] * 40), of(PAIR, *THREE),
                      of({"a": (BOX, 3)}), of(PAIR, ("hold", "nowhere", NOUGHT, NOUGHT, NOUGHT)),
                      of(PAIR, mate("x", 0, "y", 0)), of(PAIR, mate("a", 0, "b", 3))):
            self.assertIs(is_assembly(value), True)

    def test_numbers_of_parts_and_mates(self):
        many = {"p" + chr(97 + k): BOX for k in range(13)}
        for value in (of({}), of(many), of(PAIR, *[HOLD] * 41)):
            self.assertIs(is_assembly(value), False)

    def test_parts(self):
        good = ("a", BOX, 0)
        cuts = (NOUGHT, ratio(1), ratio(2))
        labels = [tuple(None if beside(place, d) in ((0, 0, 0), (1, 0, 0)) else label_of("f", d) for d in range(6))
                  for place in ((0, 0, 0), (1, 0, 0))]
        fat = (cuts, cuts[:2], cuts[:2], (((0, 0, 0), labels[0]), ((1, 0, 0), labels[1])))
        self.assertEqual(thin(*fat[:3], dict(fat[3])), block((0, 0, 0), (2, 1, 1)))
        for part in (("A", BOX, 0), ("", BOX, 0), (1, BOX, 0), ("a", EMPTY, 0), ("a", fat, 0), ("a", None, 0),
                     ("a", list(BOX), 0), ("a", BOX, 4), ("a", BOX, -1), ("a", BOX, True), ("a", BOX, "0"),
                     ("a", BOX, None), ("a", BOX), ("a", BOX, 0, 0), ["a", BOX, 0], None, 3):
            self.assertIs(is_assembly(((part,), ())), False, part)
            self.assertIs(is_assembly(((part, ("b", BOX, 0)), ())), False, part)
        for parts in ((good, good), (("b", BOX, 0), good), [good], None, "a", good):
            self.assertIs(is_assembly((parts, ())), False)
        self.assertIs(is_assembly(((good, ("b", BOX, 0), ("c", BOX, 0)), ())), True)
        self.assertIs(is_assembly(((good, ("c", BOX, 0), ("b", BOX, 0)), ())), False)

    def test_mates(self):
        name = side(0)
        for one in (("hold", "a", NOUGHT, NOUGHT), ("hold", "a", NOUGHT, NOUGHT, NOUGHT, NOUGHT),
                    ("hold", "A", NOUGHT, NOUGHT, NOUGHT), ("hold", 1, NOUGHT, NOUGHT, NOUGHT),
                    ("hold", "a", NOUGHT, NOUGHT, (2, 2)), ("hold", "a", 0, NOUGHT, NOUGHT),
                    ("hold", "a", NOUGHT, True, NOUGHT), ["hold", "a", NOUGHT, NOUGHT, NOUGHT],
                    ("mate", "a", name, "a", name, NOUGHT), ("mate", "a", name, "b", name),
                    ("mate", "a", name, "b", name, NOUGHT, NOUGHT), ("mate", "A", name, "b", name, NOUGHT),
                    ("mate", "a", name, "", name, NOUGHT), ("mate", "a", name, "b", name, 1),
                    ("mate", "a", name, "b", name, (1, 0)), ("mate", "a", name, "b", ("f", "s0"), NOUGHT),
                    ("mate", "a", ("f", "s0"), "b", name, NOUGHT), ("mate", "a", list(name), "b", name, NOUGHT),
                    ["mate", "a", name, "b", name, NOUGHT], ("mate",), ("hold",), ("held", "a", NOUGHT, NOUGHT, NOUGHT),
                    ("made", "a", name, "b", name, NOUGHT), (), None, "hold", 7):
            self.assertIs(is_assembly(of(PAIR, one)), False, one)
            self.assertIs(is_assembly(of(PAIR, HOLD, one)), False, one)
        self.assertIs(is_assembly((of(PAIR)[0], [HOLD])), False)
        self.assertIs(is_assembly((of(PAIR)[0], HOLD)), False)
        self.assertIs(is_assembly((of(PAIR)[0], None)), False)

    def test_other_values(self):
        parts, mates = of(PAIR, HOLD)
        for value in (None, 0, (), (parts,), (parts, mates, ()), [parts, mates], "ab", {}):
            self.assertIs(is_assembly(value), False)


class Faults(unittest.TestCase):
    def test_none(self):
        self.assertIsNone(fault_of(of(PAIR, *THREE)))
        self.assertIsNone(fault_of(of(PAIR)))

    def test_part(self):
        for one in (("hold", "c", NOUGHT, NOUGHT, NOUGHT), mate("c", 0, "a", 0), mate("a", 0, "c", 0)):
            self.assertEqual(fault_of(of(PAIR, HOLD, one)), ("part", 1))

    def test_face(self):
        comb = grid_body([(k, 0, 0) for k in range(5)] + [(1, 0, 1), (3, 0, 1)])
        parts = {"a": BOX, "c": comb}
        for one in (mate("a", 0, "c", 0, name="g"), mate("a", 0, "c", 0, other_name="g"),
                    # Several faces bear the name.
                    mate("a", 5, "c", 5), mate("c", 5, "a", 5)):
            self.assertEqual(fault_of(of(parts, HOLD, HOLD, one)), ("face", 2))
        self.assertIsNone(fault_of(of(parts, mate("c", 4, "a", 5))))

    def test_axis(self):
        for one, other in ((0, 2), (1, 5), (4, 3), (2, 1)):
            self.assertEqual(fault_of(of({"a": BOX, "b": BOX}, mate("a", one, "b", other))), ("axis", 0))
        for one, other in ((0, 0), (0, 1), (3, 2), (4, 5)):
            self.assertIsNone(fault_of(of({"a": BOX, "b": BOX}, mate("a", one, "b", other))))

    def test_axes_of_turned_bodies(self):
        # What looked along x looks along y behind one turn.
        self.assertEqual(fault_of(of({"a": BOX, "b": (BOX, 1)}, mate("a", 1, "b", 1))), ("axis", 0))
        self.assertIsNone(fault_of(of({"a": BOX, "b": (BOX, 1)}, mate("a", 1, "b", 3))))
        self.assertIsNone(fault_of(of({"a": BOX, "b": (BOX, 2)}, mate("a", 1, "b", 1))))
        self.assertIsNone(fault_of(of({"a": (BOX, 3), "b": (BOX, 1)}, mate("a", 1, "b", 1))))

    def test_which_comes_first(self):
        part, face, axis = mate("a", 0, "c", 0), mate("a", 0, "b", 0, other_name="x"), mate("a", 0, "b", 2, other_name="g")
        self.assertEqual(fault_of(of(PAIR, axis, face, part)), ("part", 2))
        self.assertEqual(fault_of(of(PAIR, axis, face)), ("face", 1))
        self.assertEqual(fault_of(of(PAIR, face, axis)), ("face", 0))
        self.assertEqual(fault_of(of(PAIR, HOLD, axis, axis)), ("axis", 1))
        self.assertEqual(fault_of(of(PAIR, part, part)), ("part", 0))
        # A mate with a part that is not there and a name that does not stand.
        self.assertEqual(fault_of(of(PAIR, mate("a", 0, "c", 0, name="x"))), ("part", 0))

    def test_not_right(self):
        for value in (None, (), of({}), of(PAIR, mate("a", 0, "a", 0))):
            with self.assertRaises(NotRight):
                fault_of(value)


class Placings(unittest.TestCase):
    def test_rows_of_hold(self):
        told = assembly_rows(of(PAIR, ("hold", "b", ratio(1), ratio(2, 3), ratio(-4))))
        self.assertEqual(told, [((("b.x", (1, 1)),), (1, 1)), ((("b.y", (1, 1)),), (2, 3)), ((("b.z", (1, 1)),), (-4, 1))])

    def test_rows_of_mates(self):
        # The planes of BOX are 0 and 2, 0 and 1, 0 and 1, those of PEG 1 and 2, 1 and 3, 1 and 5.
        gap = ratio(1, 2)
        wanted = {(0, 0): ("x", Fraction(-1, 2) + 0 - 1), (0, 1): ("x", Fraction(-1, 2) + 0 - 2),
                  (1, 0): ("x", Fraction(1, 2) + 2 - 1), (1, 1): ("x", Fraction(1, 2) + 2 - 2),
                  (2, 3): ("y", Fraction(-1, 2) + 0 - 3), (3, 2): ("y", Fraction(1, 2) + 1 - 1),
                  (4, 5): ("z", Fraction(-1, 2) + 0 - 5), (5, 4): ("z", Fraction(1, 2) + 1 - 1)}
        for (one, other), (axis, constant) in wanted.items():
            told = assembly_rows(of(PAIR, mate("a", one, "b", other, gap, "f", "g")))
            self.assertEqual(told, [((("a." + axis, (-1, 1)), ("b." + axis, (1, 1))), as_ratio(constant))])
            back = assembly_rows(of(PAIR, mate("b", other, "a", one, gap, "g", "f")))
            self.assertEqual(back[0][0], (("a." + axis, (1, 1)), ("b." + axis, (-1, 1))))

    def test_order_of_rows(self):
        told = assembly_rows(of(PAIR, THREE[1], HOLD, THREE[3]))
        self.assertEqual([row[0][0][0] for row in told], ["a.x", "a.x", "a.y", "a.z", "a.z"])
        self.assertEqual(assembly_rows(of(PAIR)), [])

    def test_one_placing(self):
        told = placed(of(PAIR, *THREE))
        # Along z the face looks down: 1/2 further up is a gap of -1/2, and 5 is where the face of b lies.
        self.assertEqual(told, ("one", {"a": (NOUGHT, NOUGHT, NOUGHT), "b": (ratio(2), NOUGHT, ratio(-9, 2))}))
        self.assertEqual(put_together(of(PAIR, *THREE)), {"a": BOX, "b": moved(PEG, told[1]["b"])})

    def test_freedoms(self):
        told = placed(of(PAIR, *THREE[:3]))
        self.assertEqual((told[0], told[1]["b"], len(told[2])), ("free", (ratio(2), NOUGHT, NOUGHT), 1))
        self.assertEqual(told[2][0], {"a": (NOUGHT, NOUGHT, NOUGHT), "b": (NOUGHT, NOUGHT, ratio(1))})
        loose = placed(of({"a": BOX}))
        self.assertEqual([way["a"] for way in loose[2]], [tuple(ratio(int(k == n)) for k in range(3)) for n in range(3)])

    def test_clash(self):
        assembly = of(PAIR, *THREE, mate("a", 1, "b", 0, ratio(2), "f", "g"))
        word, factors = placed(assembly)
        self.assertEqual(word, "none")
        self.assertTrue(is_clash(made(assembly_rows(assembly), factors)))
        # The same gap once more does not clash.
        self.assertEqual(placed(of(PAIR, *THREE, THREE[1]))[0], "one")

    def test_errors(self):
        for value in (None, of({}), of(PAIR, mate("a", 0, "a", 0))):
            for ask in (assembly_rows, placed, put_together, placing_paper):
                with self.assertRaises(NotRight):
                    ask(value)
            with self.assertRaises(NotRight):
                accepts_placing(value, ("none", []), None)
        for one in (mate("a", 0, "c", 0), mate("a", 0, "b", 0), mate("a", 0, "b", 2, other_name="g")):
            for ask in (assembly_rows, placed, put_together, placing_paper):
                with self.assertRaises(NotRight):
                    ask(of(PAIR, one))
            with self.assertRaises(NotRight):
                accepts_placing(of(PAIR, one), ("none", []), None)
        for mates in (THREE[:3], THREE + (mate("a", 1, "b", 0, ratio(2), "f", "g"),)):
            with self.assertRaises(NotThere):
                put_together(of(PAIR, *mates))

    def test_put_together_against_the_words(self):
        chance = random.Random(101)
        tried = 0
        for _ in range(60):
            bodies = {name: random_body(chance, name, 2, "abcd") for name in "abc"}
            if EMPTY in bodies.values():
                continue
            turns = {name: chance.randint(0, 3) for name in bodies}
            mates = [("hold", "b", *[ratio(chance.randint(-3, 3), 2) for _ in range(3)])]
            for other in "ac":
                for axis in range(3):
                    mates.append(self.random_mate(chance, bodies, turns, other, axis))
            if None in mates:
                continue
            tried += 1
            assembly = of({name: (bodies[name], turns[name]) for name in bodies}, *mates)
            before = copy.deepcopy(assembly)
            found = put_together(assembly)
            self.assertEqual(assembly, before)
            for one in mates[1:]:
                self.check_mate(found, one)
            for name in bodies:
                by = placed(assembly)[1][name]
                self.assertEqual(found[name], moved(turned(bodies[name], turns[name]), by))
        self.assertGreater(tried, 20)

    def random_mate(self, chance, bodies, turns, other, axis):
        names = []
        for name in ("b", other):
            body = turned(bodies[name], turns[name])
            good = [k for k, face in enumerate(faces(body)) if face[1] // 2 == axis and least_name(body, k)]
            if not good:
                return None
            names.append(least_name(body, chance.choice(good)))
        pair = [("b", names[0]), (other, names[1])]
        chance.shuffle(pair)
        return ("mate", *pair[0], *pair[1], ratio(chance.randint(-2, 2), chance.choice([1, 3])))

    def check_mate(self, found, one):
        """Checks in the moved bodies how far the plane of the other face lies further than that of the face."""
        _, part, name, other, other_name, gap = one
        face = faces(found[part])[meant(found[part], name)]
        other_face = faces(found[other])[meant(found[other], other_name)]
        further = fraction(face_plane(found[other], other_face)) - fraction(face_plane(found[part], face))
        self.assertEqual(further if face[1] % 2 == 1 else -further, fraction(gap))


class Papers(unittest.TestCase):
    def setUp(self):
        self.one = of(PAIR, *THREE)
        self.free = of(PAIR, *THREE[:3])
        self.none = of(PAIR, *THREE, mate("a", 1, "b", 0, ratio(2), "f", "g"))

    def test_their_own(self):
        for assembly in (self.one, self.free, self.none, of({"a": BOX})):
            self.assertIs(accepts_placing(assembly, placed(assembly), placing_paper(assembly)), True)
        self.assertIsNone(placing_paper(self.none))
        self.assertEqual(placing_paper(of({"a": BOX})), [])

    def test_what_is_told_is_changed(self):
        for assembly in (self.one, self.free):
            told, paper = placed(assembly), placing_paper(assembly)
            for name in ("a", "b"):
                for axis in range(3):
                    other = copy.deepcopy(told)
                    place = list(other[1][name])
                    place[axis] = ratio(77)
                    other[1][name] = tuple(place)
                    self.assertIs(accepts_placing(assembly, other, paper), False)
            for word in ("one", "free", "none", "some"):
                if word != told[0]:
                    self.assertIs(accepts_placing(assembly, (word,) + told[1:], paper), False)
            self.assertIs(accepts_placing(assembly, (told[0], {"a": told[1]["a"]}) + told[2:], paper), False)
            self.assertIs(accepts_placing(assembly, (told[0],), paper), False)
        told, paper = placed(self.free), placing_paper(self.free)
        for ways in ([], told[2] * 2, [{**told[2][0], "b": (NOUGHT, NOUGHT, ratio(2))}]):
            self.assertIs(accepts_placing(self.free, (*told[:2], ways), paper), False)
        self.assertIs(accepts_placing(self.free, told[:2], paper), False)

    def test_the_frame_is_changed(self):
        told, paper = placed(self.one), placing_paper(self.one)
        self.assertIs(accepts_placing(self.one, told, None), False)
        self.assertIs(accepts_placing(self.one, told, []), False)
        for k, (lead, factors) in enumerate(paper):
            self.assertIs(accepts_placing(self.one, told, paper[:k] + paper[k + 1:]), False)
            self.assertIs(accepts_placing(self.one, told, paper[:k] + [("c.x", factors)] + paper[k + 1:]), False)
            self.assertIs(accepts_placing(self.one, told, paper[:k] + [(lead, factors[:-1])] + paper[k + 1:]), False)
            for n in range(len(factors)):
                changed = factors[:n] + [as_ratio(fraction(factors[n]) + 1)] + factors[n + 1:]
                self.assertIs(accepts_placing(self.one, told, paper[:k] + [(lead, changed)] + paper[k + 1:]), False)
        self.assertIs(accepts_placing(self.one, told, paper[::-1]), False)

    def test_a_frame_made_otherwise(self):
        # The row of the mate that stands twice may be taken from either of both.
        assembly = of(PAIR, *THREE, THREE[1])
        told, paper = placed(assembly), placing_paper(assembly)
        other = []
        for lead, factors in paper:
            half = as_ratio((fraction(factors[3]) + fraction(factors[6])) / 2)
            other.append((lead, factors[:3] + [half] + factors[4:6] + [half]))
        self.assertNotEqual(other, paper)
        self.assertIs(accepts_placing(assembly, told, other), True)

    def test_clash(self):
        told = placed(self.none)
        twice = ("none", [as_ratio(2 * fraction(one)) for one in told[1]])
        self.assertIs(accepts_placing(self.none, twice, None), True)
        self.assertIs(accepts_placing(self.none, told, []), False)
        self.assertIs(accepts_placing(self.none, ("none", [NOUGHT] * len(told[1])), None), False)
        self.assertIs(accepts_placing(self.none, ("none", told[1][:-1]), None), False)
        self.assertIs(accepts_placing(self.none, ("none", told[1] + [NOUGHT]), None), False)
        self.assertIs(accepts_placing(self.none, ("none", []), None), False)
        self.assertIs(accepts_placing(self.none, ("none",), None), False)
        self.assertIs(accepts_placing(self.none, ("none", "rows", told[1]), None), False)
        self.assertIs(accepts_placing(self.one, ("none", [NOUGHT] * 6), None), False)
        self.assertIs(accepts_placing(self.one, placed(self.one), None), False)

    def test_another_assembly(self):
        other = of(PAIR, *THREE[:3], mate("a", 4, "b", 5, ratio(1, 2), "f", "g"))
        self.assertIs(accepts_placing(other, placed(self.one), placing_paper(other)), False)
        self.assertIs(accepts_placing(other, placed(other), placing_paper(self.one)), True)


class Contacts(unittest.TestCase):
    def slow_contact(self, body, other):
        ours, theirs = unit_cells(body), unit_cells(other)
        return sum(1 for place, labels in ours.items() for d in range(6) if labels[d] is not None
                   and theirs.get(beside(place, d), (None,) * 6)[d + 1 if d % 2 == 0 else d - 1] is not None)

    def test_two_boxes(self):
        other = block((0, 0, 0), (1, 2, 3), "g")
        for by, common_volume, area in (((2, 0, 0), 0, 1), ((1, 0, 0), 1, 0), ((0, 0, 1), 0, 1), ((0, 0, -3), 0, 1),
                                        ((0, 1, 0), 0, 1), ((0, -2, 0), 0, 1), ((-1, 0, 0), 0, 1), ((2, 1, 0), 0, 0),
                                        ((2, 1, 1), 0, 0), ((5, 5, 5), 0, 0), ((0, 0, 0), 1, 0), ((0, -1, -2), 1, 0)):
            bodies = {"a": BOX, "b": moved(other, tuple(ratio(one) for one in by))}
            told = [("a", "b", ratio(common_volume))] if common_volume else []
            self.assertEqual(overlaps(bodies), told, by)
            self.assertEqual(contacts(bodies), [("a", "b", ratio(area))] if area else [], by)
            self.assertEqual(contact(bodies["a"], bodies["b"]), ratio(area))
            self.assertEqual(contact(bodies["b"], bodies["a"]), ratio(area))

    def test_fractions(self):
        bodies = {"b": BOX, "a": moved(BOX, (ratio(1, 3), ratio(1), ratio(1, 2)))}
        self.assertEqual(contacts(bodies), [("a", "b", ratio(5, 6))])
        bodies["a"] = moved(BOX, (ratio(1, 3), ratio(3, 4), ratio(1, 2)))
        self.assertEqual(overlaps(bodies), [("a", "b", ratio(5, 24))])

    def test_names_ascend(self):
        bodies = {name: BOX for name in ("c", "b", "a10", "a9")}
        self.assertEqual([told[:2] for told in overlaps(bodies)],
                         [("a10", "a9"), ("a10", "b"), ("a10", "c"), ("a9", "b"), ("a9", "c"), ("b", "c")])
        bodies = {name: moved(BOX, (NOUGHT, ratio(k), NOUGHT)) for k, name in enumerate(("c", "a", "b"))}
        self.assertEqual(contacts(bodies), [("a", "b", ratio(2)), ("a", "c", ratio(2))])
        self.assertEqual((overlaps({}), contacts({}), overlaps({"a": BOX}), contacts({"a": BOX})), ([], [], [], []))

    def test_random_bodies(self):
        chance = random.Random(104)
        touched = 0
        for _ in range(40):
            body, other = random_body(chance, "f"), random_body(chance, "g")
            ours, theirs = unit_cells(body), unit_cells(other)
            common_volume = len(set(ours) & set(theirs))
            area = self.slow_contact(body, other)
            touched += area > 0
            self.assertEqual(contact(body, other), ratio(area))
            self.assertEqual(contact(other, body), ratio(area))
            self.assertEqual(overlaps({"a": body, "b": other}), [("a", "b", ratio(common_volume))] if common_volume else [])
            self.assertEqual(contacts({"a": body, "b": other}), [("a", "b", ratio(area))] if area else [])
        self.assertGreater(touched, 20)

    def test_a_body_within_another_one(self):
        ring = grid_body([(i, j, k) for i in range(3) for j in range(3) for k in range(3) if (i, j, k) != (1, 1, 1)])
        core = block((1, 1, 1), (2, 2, 2), "g")
        self.assertEqual((contact(ring, core), overlaps({"a": ring, "b": core})), (ratio(6), []))
        # Both facets of a slit that is filled are counted.
        slit = joined(block((0, 0, 0), (1, 1, 1)), block((2, 0, 0), (3, 1, 1)))
        self.assertEqual(contact(slit, block((1, 0, 0), (2, 1, 1), "g")), ratio(2))

    def test_too_large(self):
        def comb(shift, many):
            cuts = [tuple(as_ratio(Fraction(k) + shift) for k in range(many + 1)) for _ in range(3)]
            return thin(*cuts, {(k, k, k): tuple(label_of("f", d) for d in range(6)) for k in range(many)})

        one, other = comb(Fraction(0), 14), comb(Fraction(1, 2), 14)
        # 29 layers along each axis make 24389 boxes, 27 make 19683.
        for ask in (overlaps, contacts):
            with self.assertRaises(TooLarge):
                ask({"a": one, "b": other})
            self.assertEqual(ask({"a": one}), [])
        with self.assertRaises(TooLarge):
            contact(one, other)
        one, other = comb(Fraction(0), 13), comb(Fraction(1, 2), 13)
        self.assertEqual(len(overlaps({"a": one, "b": other})), 1)
        self.assertEqual(contacts({"a": one, "b": other}), [])


if __name__ == "__main__":
    unittest.main()
