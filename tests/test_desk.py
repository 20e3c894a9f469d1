import copy
import random
import unittest

from mitrehouse import texts
from mitrehouse.apart import taken_apart
from mitrehouse.bodies import EMPTY, extent, surface, volume
from mitrehouse.choosing import chosen, read_choice
from mitrehouse.desk import Desk, answers_to
from mitrehouse.errors import NotRight, NotThere
from mitrehouse.faces import bearers, face_area, faces, least_name, twin
from mitrehouse.histories import built, stop_of
from mitrehouse.lineage import fates
from mitrehouse.making import can_be_drawn, least_directions
from mitrehouse.measures import centre, flat_area, narrowest, section, thinnest
from mitrehouse.ratios import ratio, write_ratio
from mitrehouse.slices import rings_of
from mitrehouse.standing import stands
from mitrehouse.versions import changes, merged
from mitrehouse.views import view, view_lines
from mitrehouse.words import write_face_name
from samples import ONE, TWO, ZERO, box_sketch, feature, num, on

W = ("of", "w")
BASE = feature("base", sketch=box_sketch(W, TWO))
HOLE = feature("hole", "cut", on("base", "high"), box_sketch(ONE, ONE), low=num(-1), high=ZERO)
SLOT = feature("slot", "cut", ("base", 2, ZERO), box_sketch(ONE, TWO, num(1), ZERO), low=num(0), high=num(1, 2))
PLATE = ((("w", ratio(4)),), (BASE, HOLE))
NONE = ((), ())
# Stops at its second feature; where the number is there no more, already at the first one.
LATE = ((("w", ratio(4)),), (BASE, feature("late", low=TWO, high=ONE)))
# A bar that a slot divides: the faces of its sides come twice.
SLOTTED = ((("w", ratio(6)),), (BASE, feature("gap", "cut", ("base", 2, ZERO), box_sketch(ONE, TWO, num(2), ZERO), low=num(-1), high=TWO)))
# A beam of which the middle is cut out, and its lower half put back with another one: two stubs with the same neighbours.
STUBS = ((), (feature("beam", place=("base", 0, ZERO), sketch=box_sketch(num(3), TWO), high=num(4)),
              feature("slot", "cut", ("base", 0, ZERO), box_sketch(num(3), TWO), low=ONE, high=num(3)),
              feature("rail", place=("base", 0, ZERO), sketch=box_sketch(num(3), ONE), low=num(-1), high=num(4))))
HUGE = ((("w", ratio(10 ** 29)),), (BASE,))


def load(name, history):
    """Returns the lines that load a history as a drawing of the name."""
    return ["text " + row for row in texts.write_history(history).split("\n")[:-1]] + ["load " + name]


def desk_with(**histories):
    desk = Desk()
    for name, history in histories.items():
        for line in load(name, history):
            answer = desk.obey(line)
        assert answer == [f"loaded {len(history[1])}"], answer
    return desk


def state(desk):
    """Returns what a desk tells of itself: the names, the histories and the draft."""
    draft = list(desk.draft)
    return (desk.names(), [desk.history(name) for name in desk.names()], draft)


class Table(unittest.TestCase):
    def setUp(self):
        self.desk = desk_with(p=PLATE, q=SLOTTED, none=NONE, late=LATE, slot=((("w", ratio(4)),), (BASE, SLOT)))

    def ask(self, line):
        return self.desk.obey(line)

    def refused(self, line, reason):
        before = copy.deepcopy(state(self.desk))
        self.assertEqual(self.ask(line), ["refused " + reason], line)
        self.assertEqual(state(self.desk), before)

    def test_text_and_empty(self):
        for k, line in enumerate(("text a", "text", "text ", "text  two  ", "text text", "text   ")):
            self.assertEqual(self.ask(line), [f"lines {k + 1}"])
        self.assertEqual(self.desk.draft, ["a", "", "", " two  ", "text", "  "])
        self.assertEqual(self.ask("empty"), ["emptied"])
        self.assertEqual(self.desk.draft, [])
        self.assertEqual(self.ask("text x"), ["lines 1"])
        self.refused("empty ", "count")
        self.refused("empty x", "count")

    def test_400_strings(self):
        for k in range(400):
            self.assertEqual(self.ask("text"), [f"lines {k + 1}"])
        self.refused("text", "full")
        self.refused("text x", "full")
        self.refused("load r", "text 0")
        self.assertEqual((self.ask("empty"), self.ask("text")), (["emptied"], ["lines 1"]))

    def test_load(self):
        rows = texts.write_history(PLATE).split("\n")[:-1]
        for row in rows:
            self.ask("text " + row)
        self.assertEqual(self.ask("load r"), ["loaded 2"])
        self.assertEqual((self.desk.history("r"), self.desk.draft), (PLATE, []))
        # The empty draft is the text of a history, and a name that is there gets another drawing.
        self.assertEqual(self.ask("load r"), ["loaded 0"])
        self.assertEqual(self.desk.history("r"), NONE)
        for row in rows[:-1]:
            self.ask("text " + row)
        self.refused("load r", "text 30")
        self.ask("text end ")
        self.refused("load r", "text 30")
        self.refused("load R", "name")
        self.ask("empty")
        for row in rows[:1] + rows:
            self.ask("text " + row)
        self.refused("load r", "history")
        self.ask("text x")
        self.refused("load r", "text 32")
        # A point that is no name cannot stand in a draft; one that is no point of the sketch makes no history.
        for put, reason in (("points a b c d 1", "text 3"), ("ask level a 1", "text 4"), ("ask level a z", "history")):
            self.ask("empty")
            at = 3 if put.startswith("points") else 4
            for row in rows[:at] + [put] + rows[at + 1:]:
                self.ask("text " + row)
            self.refused("load r", reason)

    def test_show(self):
        self.assertEqual(self.ask("show p"), texts.write_history(PLATE).split("\n")[:-1])
        self.assertEqual(self.ask("show none"), [])
        self.assertEqual(self.ask("show late")[-3:], ["low num 2", "high num 1", "end"])

    def test_copy_and_drop(self):
        self.assertEqual(self.ask("build p"), ["built 7 faces 8", "anew base hole"])
        self.assertEqual(self.ask("copy r p"), ["copied"])
        # A copy keeps no building of the one that it comes from.
        self.assertEqual(self.ask("build r"), ["built 7 faces 8", "anew base hole"])
        self.assertEqual(self.ask("set r w 5"), ["set"])
        self.assertEqual((self.ask("build p"), self.ask("build r")[0]), (["built 7 faces 8", "anew"], "built 9 faces 8"))
        self.assertEqual(self.ask("copy q p"), ["copied"])
        self.assertEqual(self.desk.history("q"), PLATE)
        self.assertEqual(self.ask("copy p p"), ["copied"])
        self.assertEqual(self.ask("build p"), ["built 7 faces 8", "anew base hole"])
        self.assertEqual(self.ask("drop q"), ["dropped"])
        self.assertNotIn("q", self.desk.names())
        self.refused("drop q", "none")
        self.refused("copy x q", "none")
        self.refused("copy X q", "name")
        self.assertEqual(self.ask("copy q p"), ["copied"])

    def test_set(self):
        self.assertEqual(self.ask("set p w 5/2"), ["set"])
        self.assertEqual(self.desk.history("p")[0], (("w", ratio(5, 2)),))
        self.assertEqual(self.ask("set p h -1"), ["set"])
        self.assertEqual(self.desk.history("p")[0], (("h", ratio(-1)), ("w", ratio(5, 2))))
        for k in range(40):
            self.ask(f"set none n{k} {k}")
        self.refused("set none z 1", "history")
        self.assertEqual(self.ask("set none n7 99"), ["set"])
        self.refused("set none z 1/0", "number")
        for word in ("x", "2/4", "01", "", "1.5", "1/1", "-0", "9" * 31):
            self.refused("set p w " + word, "number")
        self.refused("set p W 1", "name")
        self.refused("set p W x", "name")
        self.refused("set x w y", "none")
        self.refused("set x W 1", "name")
        self.refused("set p w", "count")
        self.refused("set p w 1 ", "count")

    def test_take(self):
        self.refused("take p w", "feature")
        self.assertEqual(self.ask("take p hole"), ["left 1"])
        self.refused("take p hole", "feature")
        self.assertEqual(self.ask("build p"), ["built 8 faces 6", "anew base"])
        self.assertEqual(self.ask("take p base"), ["left 0"])
        self.assertEqual(self.ask("build p"), ["built 0 faces 0", "anew"])
        self.refused("take p Base", "name")
        self.refused("take x hole", "none")

    def test_build_and_what_was_made_anew(self):
        self.assertEqual(self.ask("build p"), ["built 7 faces 8", "anew base hole"])
        self.assertEqual(self.ask("build p"), ["built 7 faces 8", "anew"])
        self.ask("set p h 7")
        self.assertEqual(self.ask("build p"), ["built 7 faces 8", "anew"])
        self.ask("set p w 3")
        self.assertEqual(self.ask("build p"), ["built 5 faces 8", "anew base hole"])
        self.ask("take p hole")
        self.assertEqual(self.ask("build p"), ["built 6 faces 6", "anew"])
        # Behind another answer, or a refused line, that has built it, nothing is made anew.
        self.assertEqual(self.ask("set p w 1"), ["set"])
        self.assertEqual(self.ask("stand p"), ["stands"])
        self.assertEqual(self.ask("build p"), ["built 2 faces 6", "anew"])
        self.ask("set p w 2")
        self.refused("name p 6", "face")
        self.assertEqual(self.ask("build p"), ["built 4 faces 6", "anew"])
        self.ask("set p w 9")
        self.refused("apart p none", "empty")
        self.assertEqual(self.ask("build p"), ["built 18 faces 6", "anew"])
        self.ask("set p w 8")
        self.refused("name p 100000", "number")
        self.refused("view p 6", "direction")
        self.assertEqual(self.ask("build p"), ["built 16 faces 6", "anew base"])

    def test_faces_and_names(self):
        body = built(PLATE)
        wanted = [f"{k} {face[1]} {write_ratio(face_area(body, face))} {face[0][0]}:{face[0][1]}" for k, face in enumerate(faces(body))]
        self.assertEqual(self.ask("faces p"), wanted)
        self.assertEqual(wanted[1], "1 0 1 hole:b.c")
        self.assertEqual(self.ask("faces none"), [])
        for k in range(8):
            self.assertEqual(self.ask(f"name p {k}"), ["name " + write_face_name(least_name(body, k))])
        self.refused("name p 8", "face")
        self.refused("name p 99999", "face")
        for word in ("100000", "08", "00", "-1", "x", "", "1/2", "+1", "9" * 40):
            self.refused("name p " + word, "number")
        other = built(STUBS)
        desk = desk_with(q=STUBS)
        answers = [desk.obey(f"name q {k}")[0] for k in range(len(faces(other)))]
        self.assertEqual(answers, ["name " + write_face_name(least_name(other, k)) if least_name(other, k) is not None
                                   else f"twin {twin(other, k)}" for k in range(len(faces(other)))])
        self.assertTrue(any(answer.startswith("twin") for answer in answers))
        self.refused("name none 0", "face")

    def test_find_and_choose(self):
        self.assertEqual(self.ask("find p base:high"), [f"borne {bearers(built(PLATE), (('base', 'high'), ()))[0]}"])
        self.assertEqual(self.ask("find q base:a.b"), ["borne " + " ".join(map(str, bearers(built(SLOTTED), (("base", "a.b"), ()))))])
        self.assertEqual(len(self.ask("find q base:a.b")[0].split(" ")), 3)
        self.assertEqual(self.ask("find p zzz:x & a:b"), ["borne"])
        for rest in ("x", "base:high &", "base:high ", "", " base:high", "base:high & b:c & a:b", "a:b:c"):
            self.refused("find p " + rest, "name")
        self.refused("find p", "count")
        self.refused("find x base", "none")
        self.refused("find late base", "name")
        for text in ("looks 5", "and of base not looks 4", "beside of hole", "area 1 1", "of nothing"):
            found = chosen(built(PLATE), read_choice(text))
            self.assertEqual(self.ask("choose p " + text), [" ".join(["chosen"] + [str(one) for one in found])])
        for text, at in (("", 0), ("x", 0), ("looks", 1), ("looks 6", 1), ("and looks 1 not", 4), ("looks 1 x", 2), ("not " * 6, 6)):
            self.refused("choose p " + text, f"choice {at}")
            self.refused("choose late " + text, f"choice {at}")
        self.refused("choose p", "count")

    def test_measures(self):
        body = built(PLATE)
        low, high = extent(body)
        self.assertEqual(self.ask("measure p"), [
            f"volume {write_ratio(volume(body))} surface {write_ratio(surface(body))}"]
            + [" ".join([word] + [write_ratio(one) for one in triple]) for word, triple in
               (("from", low), ("to", high), ("centre", centre(body)))])
        self.assertEqual(self.ask("measure p")[2:], ["to 4 2 1", "centre 31/14 15/14 1/2"])
        self.refused("measure none", "empty")
        self.assertEqual(self.ask("thin q"), ["0 2 1", "1 2 -", "2 1 -"])
        self.assertEqual(self.ask("thin p"), [f"{k} {write_ratio(thinnest(body, k))} -" for k in range(3)])
        self.assertEqual([narrowest(body, k) for k in range(3)], [None] * 3)
        self.refused("thin none", "empty")

    def test_sections(self):
        self.assertEqual(self.ask("section p 2 1/2"), ["area 7", "ring 0,1 1,1 1,0 4,0 4,2 0,2"])
        self.assertEqual(self.ask("section p 2 1"), ["area 0"])
        self.assertEqual(self.ask("section none 0 1"), ["area 0"])
        for axis in range(3):
            for at in (ratio(0), ratio(1, 2), ratio(3), ratio(-1)):
                flat = section(built(SLOTTED), axis, at)
                self.assertEqual(self.ask(f"section q {axis} {write_ratio(at)}"), ["area " + write_ratio(flat_area(flat))] + [
                    "ring " + " ".join(f"{write_ratio(u)},{write_ratio(v)}" for u, v in ring) for ring in rings_of(flat)])
        self.assertEqual(len(self.ask("section q 2 1/2")), 3)
        self.refused("section p 3 1", "axis")
        self.refused("section p 3 x", "number")
        self.refused("section p 03 1", "number")
        self.refused("section late 3 1", "axis")
        self.assertEqual(self.ask("section late 2 1"), ["stops late low"])

    def test_views(self):
        for direction in range(6):
            lines = view_lines(view(built(PLATE), direction))
            self.assertEqual(self.ask(f"view p {direction}"), [" ".join([word] + [write_ratio(one) for one in rest]) for word, *rest in lines])
        self.assertEqual(self.ask("view p 5")[0], "u 0 1 4")
        self.refused("view p 6", "direction")
        self.refused("view late 6", "direction")
        self.refused("view none 6", "direction")
        self.refused("view none 5", "empty")
        self.refused("view p -1", "number")
        self.assertEqual(self.ask("view late 5"), ["stops late low"])

    def test_stand_and_make(self):
        self.assertEqual(self.ask("stand p"), [stands(built(PLATE))])
        self.refused("stand none", "empty")
        body = built(((("w", ratio(4)),), (BASE, SLOT)))
        self.assertEqual(self.ask("make slot"), [" ".join(["from"] + [str(d) for d in one]) for one in least_directions(body)]
                         + [" ".join(["drawn"] + [str(axis) for axis in range(3) if can_be_drawn(body, axis)])])
        self.ask("take p hole")
        self.assertEqual(self.ask("make p"), ["from", "drawn 0 1 2"])
        self.assertEqual(self.ask("make q")[-1], "drawn 1 2")
        self.refused("make none", "empty")

    def test_tips_and_falls(self):
        bar = feature("bar", low=ONE, high=TWO, sketch=box_sketch(W, ONE))
        foot = feature("foot", sketch=box_sketch(ONE, ONE))
        desk = desk_with(p=((("w", ratio(2)),), (foot, bar)))
        self.assertEqual(desk.obey("stand p"), ["stands"])
        desk.obey("set p w 3")
        self.assertEqual(desk.obey("stand p"), ["falls"])
        tip = feature("tip", low=ONE, high=TWO, sketch=box_sketch(ONE, ONE, num(1), ZERO))
        self.assertEqual(desk_with(p=((), (foot, tip))).obey("stand p"), ["tips"])

    def test_fates(self):
        for one, other in (("p", "q"), ("q", "p"), ("p", "p"), ("q", "q"), ("p", "none"), ("slot", "p")):
            told = fates(built(self.desk.history(one)), built(self.desk.history(other)))
            self.assertEqual(self.ask(f"fates {one} {other}"), [" ".join([str(k)] + [str(part) for part in fate]) for k, fate in enumerate(told)])
        self.assertEqual(self.ask("fates none p"), [])
        self.assertIn("0 means 0", self.ask("fates p p"))
        self.assertIn("0 lost", self.ask("fates p none"))
        answers = desk_with(t=STUBS).obey("fates t t")
        self.assertTrue(any(line.endswith(" twin") for line in answers) and any(" means " in line for line in answers))
        self.assertTrue(any(line.endswith(" many") for line in self.ask("fates p q")))

    def test_changes(self):
        self.ask("copy r p")
        self.assertEqual(self.ask("changes p r"), [])
        self.ask("set r w 5")
        self.ask("set r h 1/2")
        self.ask("take r hole")
        self.assertEqual(self.ask("changes p r"), ["number h 1/2", "number w 5", "feature hole gone"])
        self.assertEqual(self.ask("changes r p"), ["number h gone", "number w 4", "feature hole"])
        self.assertEqual(len(changes(self.desk.history("p"), self.desk.history("r"))), 3)
        self.assertEqual(self.ask("changes late none"), ["number w gone", "feature base gone", "feature late gone"])

    def test_merge(self):
        self.ask("copy l p")
        self.ask("copy r p")
        self.ask("set l w 5")
        self.ask("take r hole")
        self.assertEqual(self.ask("merge m p l r"), ["merged 1"])
        self.assertEqual(self.desk.history("m"), merged(PLATE, self.desk.history("l"), self.desk.history("r"))[1])
        self.assertEqual(self.ask("build m"), ["built 10 faces 6", "anew base"])
        # A name that is there gets the merged drawing, with nothing kept of the one before.
        self.assertEqual(self.ask("merge l p l r"), ["merged 1"])
        self.assertEqual(self.ask("build l"), ["built 10 faces 6", "anew base"])
        self.ask("set r w 7")
        before = state(self.desk)
        self.assertEqual(self.ask("merge new p l r"), ["clash", "number w"])
        self.assertEqual(self.ask("merge p p late slot"), ["merged 3"])
        self.assertEqual(self.ask("drop p"), ["dropped"])
        self.assertEqual(state(self.desk)[0], [name for name in before[0] if name != "p"])

    def test_merges_that_fail(self):
        base = ((), (feature("a"),))
        left = ((), (feature("a"), feature("z"), feature("y"), feature("x", high=ONE)))
        right = ((), (feature("a"), feature("y"), feature("z"), feature("x", high=TWO)))
        desk = desk_with(base=base, left=left, right=right)
        self.assertEqual(desk.obey("merge m base left right"), ["clash", "feature x"])
        desk.obey("take left x")
        desk.obey("take right x")
        told = merged(base, desk.history("left"), desk.history("right"))
        self.assertEqual(told[:2], ("clash", []))
        self.assertEqual(desk.obey("merge m base left right"), ["clash", "order " + " ".join(told[2])])
        self.assertEqual(desk.obey("merge m base left right"), ["clash", "order y z"])
        self.assertNotIn("m", desk.names())
        desk = desk_with(base=NONE, left=NONE, right=NONE)
        for k in range(25):
            desk.obey(f"set left l{k} 1")
            desk.obey(f"set right r{k} 1")
        self.assertEqual(desk.obey("merge m base left right"), ["large"])
        self.assertEqual(desk.names(), ["base", "left", "right"])

    def test_apart(self):
        above = ((), (feature("f", low=ONE, high=TWO),))
        desk = desk_with(b=((("w", ratio(4)),), (BASE,)), a=above, p=PLATE, none=NONE, late=LATE)
        bodies = {"a": built(above), "b": built(desk.history("b"))}
        told = taken_apart(bodies)
        self.assertEqual(desk.obey("apart b a"), [f"away {name} {d}" for name, d in told[1]])
        self.assertEqual(desk.obey("apart a b"), desk.obey("apart b a"))
        for line, reason in (("apart b", "count"), ("apart", "count"), ("apart b B", "name"), ("apart b x", "none"), ("apart x B", "name"),
                             ("apart b b", "twice"), ("apart b x b", "none"), ("apart late late", "twice"), ("apart b p b", "twice"),
                             ("apart b none", "empty"), ("apart none none", "twice"), ("apart b p none", "empty"), ("apart b p", "overlap"),
                             ("apart a b p", "overlap")):
            self.assertEqual(desk.obey(line), ["refused " + reason], line)
        self.assertEqual(desk.obey("apart b p none late"), ["stops late low"])

    def test_held(self):
        ring = box_sketch(num(5), num(5))
        link = (feature("out", sketch=ring), feature("in", "cut", sketch=box_sketch(num(3), num(3), ONE, ONE)))
        other = (feature("out", place=("base", 1, ZERO), sketch=box_sketch(num(5), num(5), num(-2), TWO), low=TWO, high=num(3)),
                 feature("in", "cut", ("base", 1, ZERO), box_sketch(num(3), num(3), num(-1), num(3)), low=TWO, high=num(3)))
        desk = desk_with(x=((), link), y=((), other))
        self.assertEqual(desk.obey("apart x y"), ["held x y y y y y y", "held y x x x x x x"])


class Words(unittest.TestCase):
    def setUp(self):
        self.desk = desk_with(p=PLATE, late=LATE)

    def refused(self, line, reason):
        self.assertEqual(self.desk.obey(line), ["refused " + reason], line)

    def test_the_first_word(self):
        for line in ("", " ", "  ", "x", "Text x", "TEXT", " text", " build p", "help", "load", "names p", "quit p q"):
            if line != "load":
                self.refused(line, "word")
        self.refused("load", "count")

    def test_fewer_and_more_words(self):
        for line in ("load", "load a b", "show", "show p p", "copy", "copy a", "copy a p p", "drop", "drop p p", "set", "set p", "set p w",
                     "set p w 1 1", "take p", "take p a b", "build", "build p p", "faces", "faces p 1", "name p", "name p 1 1", "find",
                     "find p", "choose", "choose p", "measure", "measure p p", "thin", "thin p p", "section p 1", "section p 1 1 1",
                     "view p", "view p 1 1", "stand", "stand p p", "make", "make p p", "fates p", "fates p p p", "changes p",
                     "changes p p p", "merge a p p", "merge a p p p p", "apart", "apart p", "empty x", "build p ", "build  p", "show p "):
            self.refused(line, "count")
        # Also if a word that must be a name is none.
        self.refused("show P p", "count")
        self.refused("load  ", "count")

    def test_names(self):
        for line in ("load P", "show P", "copy A p", "copy a P", "drop 1p", "set P w 1", "set p W 1", "take p 1", "build ", "faces p-",
                     "name P x", "find P x", "choose abcdefghijklm looks 1", "measure P", "thin P", "section P x x", "view P 9", "stand P",
                     "make P", "fates p P", "fates P p", "changes p P", "merge A p p p", "merge a P p p", "merge a p P p", "merge a p p P",
                     "apart p P", "apart p x P", "set x W y", "fates x P"):
            self.refused(line, "name")

    def test_drawings_that_are_none(self):
        for line in ("show x", "copy a x", "drop x", "set x w y", "take x y", "build x", "faces x", "name x y", "find x y", "choose x y",
                     "measure x", "thin x", "section x 9 y", "view x y", "stand x", "make x", "fates p x", "fates x p", "changes p x",
                     "merge a x p p", "merge a p x p", "merge a p p x", "apart p x", "apart x x"):
            self.refused(line, "none")
        self.assertEqual(self.desk.obey("load x"), ["loaded 0"])
        self.assertEqual(self.desk.obey("build x"), ["built 0 faces 0", "anew"])

    def test_numbers(self):
        for word in ("100000", "01", "-1", "1.0", "x", "", "1/2", "000", "99999999999", "1" * 50):
            self.refused("name p " + word, "number")
            self.refused("view p " + word, "number")
            self.refused(f"section p {word} 1", "number")
            self.refused(f"section late {word} x", "number")
        self.refused("name p 99999", "face")
        self.refused("view p 99999", "direction")
        self.refused("section p 99999 1", "axis")

    def test_reasons_without_a_body_ahead_of_a_stop_and_a_stop_ahead_of_others(self):
        self.refused("find late x", "name")
        self.refused("choose late x", "choice 0")
        self.refused("section late 3 0", "axis")
        self.refused("view late 6", "direction")
        self.refused("apart late late", "twice")
        for line in ("build late", "faces late", "name late 99999", "find late a:b", "choose late looks 1", "measure late", "thin late",
                     "section late 0 0", "view late 0", "stand late", "make late", "fates late p", "fates p late", "apart late p", "apart p late"):
            self.assertEqual(self.desk.obey(line), ["stops late low"], line)
        self.assertEqual(self.desk.obey("copy late2 late"), ["copied"])
        self.desk.obey("take late2 base")
        # Drawings are built in the order of the line.
        self.desk.obey("set p w -1")
        self.desk.obey("copy other late2")
        self.desk.obey("take other late")
        self.assertEqual(self.desk.obey("build other"), ["built 0 faces 0", "anew"])
        self.desk.obey("copy first p")
        self.desk.obey("take first hole")
        self.desk.obey("take first base")
        for history, name in ((((), (feature("one", high=ZERO),)), "a"), (((), (feature("two", pick=3),)), "b")):
            for line in load(name, history):
                self.desk.obey(line)
        self.assertEqual((self.desk.obey("fates a b"), self.desk.obey("fates b a")), (["stops one low"], ["stops two pick"]))
        self.assertEqual((self.desk.obey("apart b a first"), self.desk.obey("apart first a b")), (["stops two pick"], ["stops one low"]))

    def test_what_a_stop_leaves(self):
        self.assertEqual(self.desk.obey("build late"), ["stops late low"])
        self.assertEqual(self.desk.obey("take late late"), ["left 1"])
        # The feature ahead of the stop was built already.
        self.assertEqual(self.desk.obey("build late"), ["built 8 faces 6", "anew"])


class Lines(unittest.TestCase):
    def test_400_and_401_characters(self):
        desk = Desk()
        self.assertEqual(desk.obey("text " + "x" * 395), ["lines 1"])
        self.assertRaises(NotRight, desk.obey, "text " + "x" * 396)
        self.assertRaises(NotRight, desk.obey, "x" * 401)
        self.assertEqual(desk.obey("x" * 400), ["refused word"])
        self.assertEqual(desk.obey("text"), ["lines 2"])

    def test_other_characters(self):
        desk = Desk()
        for letter in ("\x1f", "\x7f", "\n", "\t", "\r", "\u00e4", "\u2028", "\x00", "\u00a0"):
            for line in ("text " + letter, letter, "build " + letter + "x"):
                self.assertRaises(NotRight, desk.obey, line)
        self.assertEqual(desk.obey("text  ~"), ["lines 1"])
        self.assertEqual(desk.draft, [" ~"])

    def test_names_and_histories(self):
        desk = desk_with(p=PLATE, a=NONE, b2=LATE)
        self.assertEqual(desk.names(), ["a", "b2", "p"])
        self.assertEqual(desk.history("p"), PLATE)
        for name in ("x", "P", ""):
            self.assertRaises(NotThere, desk.history, name)
        self.assertEqual((Desk().names(), answers_to([])), ([], []))
        names = desk.names()
        names.append("zzz")
        self.assertEqual(desk.names(), ["a", "b2", "p"])

    def test_answers_that_are_changed(self):
        desk = desk_with(p=PLATE)
        for line in ("show p", "faces p", "build p", "measure p", "changes p p", "fates p p", "text x"):
            first = desk.obey(line)
            kept = list(first)
            first.append("changed")
            first.reverse()
            if line != "build p" and line != "text x":
                self.assertEqual(desk.obey(line), kept)

    def test_large_numbers(self):
        desk = desk_with(p=HUGE)
        self.assertEqual(desk.obey("build p")[0], f"built {2 * 10 ** 29} faces 6")
        self.assertEqual(desk.obey("section p 0 1")[0], "area 2")


class SecondDesk(unittest.TestCase):
    LINES = ["build p", "faces p", "name p 0", "name q 3", "find q base:a.b", "choose p beside of hole", "measure q", "thin p", "section q 2 1/2",
             "view p 5", "stand q", "make q", "fates p q", "changes p q", "apart p q", "set p w 3", "set p v 1", "set q w 7", "take q gap",
             "copy p q", "copy q p", "copy r q", "drop r", "merge r p q r", "merge r p p q", "show r", "load s", "text x", "empty", "load t",
             "section p 9 1", "name p 99", "build nothing", "", "take r base", "measure s", "apart r q", "apart p r q", "view r 2"]

    def test_a_desk_that_is_given_the_right_lines_alone(self):
        chance = random.Random(190)
        for _ in range(6):
            lines = load("p", PLATE) + load("q", SLOTTED) + [chance.choice(self.LINES) for _ in range(60)]
            desk = Desk()
            told = []
            for line in lines:
                before = copy.deepcopy(state(desk))
                answer = desk.obey(line)
                if answer[:1] and answer[0].startswith(("refused", "stops")):
                    self.assertEqual((len(answer), state(desk)), (1, before))
                told.append(answer)
            self.assertEqual(answers_to(lines), told)
            # What refused lines have built stays kept, so that only the lines that build nothing anew are the same.
            right = [(line, answer) for line, answer in zip(lines, told) if not (answer and answer[0].startswith("refused"))]
            other = Desk()
            for line, answer in right:
                mine = other.obey(line)
                self.assertEqual(mine[:1] if line.startswith("build") else mine, answer[:1] if line.startswith("build") else answer)
            self.assertEqual(state(other), state(desk))

    def test_bodies_are_those_of_the_histories(self):
        chance = random.Random(75)
        desk = desk_with(p=PLATE, q=SLOTTED)
        for _ in range(80):
            desk.obey(chance.choice(self.LINES))
            for name in desk.names():
                answer = desk.obey("build " + name)[0]
                stop = stop_of(desk.history(name))
                if stop is not None:
                    self.assertEqual(answer, "stops " + " ".join(stop))
                    continue
                body = built(desk.history(name))
                self.assertEqual(answer, f"built {write_ratio(volume(body))} faces {len(faces(body))}")

    def test_the_empty_body(self):
        self.assertEqual(built(NONE), EMPTY)


if __name__ == "__main__":
    unittest.main()
