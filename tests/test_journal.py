import random
import unittest

from mitrehouse.desk import Desk, answers_to
from mitrehouse.errors import Malformed, NotRight
from mitrehouse.journal import Journal, resume
from test_desk import LATE, NONE, PLATE, SLOTTED, load

LINES = (load("p", PLATE) + ["build p", "name p 0", "set p w 1/0", "set p w 2", "build p", "copy q p", "show none", "load none", "show none",
                             "changes p q", "faces p", "text left over", "text", "name p 99", "", " ", "text  x ", "drop q", "set p w 3"])
# Lines behind which it shows what a journal keeps: the draft, the names, and what is made anew.
AFTER = ["build p", "text y", "show p", "copy z p", "build z", "apart p z", "set z w 9", "build z", "load r"]


def journal_of(lines):
    journal = Journal()
    for line in lines:
        journal.obey(line)
    return journal


def record_of(lines):
    """Returns the record of lines, written down by the answers of a desk."""
    return "".join("> " + line + "\n" + "".join("< " + one + "\n" for one in answer)
                   for line, answer in zip(lines, answers_to(lines)))


class Records(unittest.TestCase):
    def test_a_record(self):
        journal = Journal()
        self.assertEqual((journal.record(), journal.lines()), ("", []))
        self.assertEqual(journal.obey("text a"), ["lines 1"])
        self.assertEqual(journal.obey("load p"), ["refused text 0"])
        self.assertEqual(journal.obey(""), ["refused word"])
        self.assertEqual(journal.obey("empty"), ["emptied"])
        self.assertEqual(journal.obey("load p"), ["loaded 0"])
        self.assertEqual(journal.obey("show p"), [])
        self.assertEqual(journal.obey("build p"), ["built 0 faces 0", "anew"])
        self.assertEqual(journal.lines(), ["text a", "load p", "", "empty", "load p", "show p", "build p"])
        self.assertEqual(journal.record(), "> text a\n< lines 1\n> load p\n< refused text 0\n> \n< refused word\n> empty\n< emptied\n"
                                           "> load p\n< loaded 0\n> show p\n> build p\n< built 0 faces 0\n< anew\n")

    def test_many_lines(self):
        journal, desk = Journal(), Desk()
        for line in LINES:
            self.assertEqual(journal.obey(line), desk.obey(line))
        self.assertEqual((journal.record(), journal.lines()), (record_of(LINES), LINES))

    def test_lines_that_raise_are_not_recorded(self):
        journal = journal_of(["text a"])
        for line in ("x" * 401, "text \n", "text \u00e4", "\t"):
            self.assertRaises(NotRight, journal.obey, line)
        self.assertEqual((journal.record(), journal.lines()), ("> text a\n< lines 1\n", ["text a"]))
        self.assertEqual(journal.obey("text b"), ["lines 2"])

    def test_lists_that_are_changed(self):
        journal = journal_of(LINES)
        record = journal.record()
        journal.obey("show p").append("changed")
        journal.obey("text z").clear()
        lines = journal.lines()
        lines.append("changed")
        lines.reverse()
        self.assertEqual(journal.lines(), LINES + ["show p", "text z"])
        self.assertEqual(journal.record(), record_of(LINES + ["show p", "text z"]))
        self.assertTrue(journal.record().startswith(record))


class Resumed(unittest.TestCase):
    def check_goes_on(self, journal, lines):
        """Checks that a journal is that of lines, and goes on like it."""
        self.assertEqual(journal.lines(), lines)
        self.assertEqual(journal.record(), record_of(lines))
        self.assertEqual([journal.obey(line) for line in AFTER], answers_to(lines + AFTER)[len(lines):])
        self.assertEqual(journal.record(), record_of(lines + AFTER))

    def test_the_whole_record(self):
        self.check_goes_on(resume(record_of(LINES)), LINES)
        self.check_goes_on(resume(""), [])
        self.check_goes_on(resume(resume(record_of(LINES)).record()), LINES)
        self.check_goes_on(resume(record_of(["show x"])), ["show x"])

    def test_cut_off_at_any_place(self):
        lines = load("p", SLOTTED)[-3:] + ["empty"] + LINES[16:17] + load("p", NONE) + ["build p", "show p", "set p w 2", "text", "name p 0", ""]
        record = record_of(lines)
        whole = [len(record_of(lines[:k])) for k in range(len(lines) + 1)]
        for at in range(len(record) + 1):
            many = max(k for k in range(len(whole)) if whole[k] <= at)
            self.assertEqual(resume(record[:at]).lines(), lines[:many], at)
            if at % 7 == 0:
                self.check_goes_on(resume(record[:at]), lines[:many])

    def test_the_last_answer_lacks_lines(self):
        for last in ("faces p", "build p", "show p", "set p w 5", "text more", "drop p", "load r", "copy r p"):
            lines = LINES + [last]
            rows = record_of(lines).split("\n")[:-1]
            start = len(record_of(LINES).split("\n")[:-1])
            for k in range(start, len(rows)):
                self.check_goes_on(resume("\n".join(rows[:k]) + "\n"), LINES)
            self.assertEqual(resume("\n".join(rows) + "\n").lines(), lines)

    def test_what_stands_behind_the_last_newline(self):
        record = record_of(LINES)
        for tail in ("x", "> build p", "< anew", "> ", "<", "\u00e4", " "):
            self.check_goes_on(resume(record + tail), LINES)
        self.check_goes_on(resume("no record"), [])

    def test_a_line_without_an_answer_is_whole(self):
        lines = ["load p", "show p"]
        self.check_goes_on(resume(record_of(lines)), lines)
        self.check_goes_on(resume(record_of(lines)[:-1]), lines[:1])
        self.check_goes_on(resume(record_of(["load p", "copy q p", "changes p q", "show q"])), ["load p", "copy q p", "changes p q", "show q"])


class Wrong(unittest.TestCase):
    def malformed(self, rows, at):
        with self.assertRaises(Malformed) as caught:
            resume("".join(row + "\n" for row in rows))
        self.assertEqual(caught.exception.at, at, rows[max(0, at - 2):at + 2])

    def first_wrong(self, rows):
        """Returns the index of the first row that is not that of a journal, or None."""
        desk, at = Desk(), 0
        while at < len(rows):
            if rows[at][:2] != "> ":
                return at
            try:
                answer = desk.obey(rows[at][2:])
            except NotRight:
                return at
            for one in answer:
                at += 1
                if at == len(rows):
                    return None
                if rows[at] != "< " + one:
                    return at
            at += 1
        return None

    def test_some_rows(self):
        rows = record_of(["text a", "empty", "load p", "build p", "show p", "name p 0"]).split("\n")[:-1]
        self.assertEqual(len(rows), 12)
        self.malformed(rows[:1] + ["< lines 2"] + rows[2:], 1)
        self.malformed(["< lines 1"] + rows, 0)
        self.malformed(rows[:2] + rows[1:], 2)
        self.malformed(rows[1:], 0)
        self.malformed([""] + rows, 0)
        self.malformed(rows[:4] + [""] + rows[4:], 4)
        self.malformed(["> text b", "< lines 1", "x"], 2)
        self.malformed(["> text b", "<lines 1"], 1)
        self.malformed(["> text b", "> text b"], 1)
        self.malformed([">text b"], 0)
        self.malformed([">"], 0)
        self.malformed(["<"], 0)
        self.malformed(rows[:7] + rows[8:], 7)
        self.malformed(rows[:8] + rows[9:], 8)
        self.malformed(rows[:9] + ["< anew"] + rows[9:], 9)
        self.malformed(rows[:10] + ["< x"] + rows[10:], 10)
        # A line that a desk raises an error for is that of no journal.
        self.malformed(["> " + "x" * 401], 0)
        self.malformed(rows + ["> text \u00e4", "< lines 1"], 12)
        self.malformed(rows + ["> text \t"], 12)

    def test_rows_changed_left_out_doubled_exchanged_and_put_in(self):
        rows = record_of(LINES[30:] + ["text a", "empty"] + load("p", LATE) + ["build p", "take p late", "build p", "faces p"]).split("\n")[:-1]
        chance = random.Random(192)
        for k in range(len(rows)):
            others = [rows[k] + " ", rows[k][:-1], "> empty", "< emptied", rows[k].replace("> ", "< "), chance.choice(rows)]
            changed = [rows[:k] + rows[k + 1:], rows[:k + 1] + rows[k:], rows[:k] + rows[k + 1:k + 2] + [rows[k]] + rows[k + 2:]]
            changed += [rows[:k] + [other] + rows[k + 1:] for other in others] + [rows[:k] + [other] + rows[k:] for other in others]
            for one in changed:
                at = self.first_wrong(one)
                if at is None:
                    resume("".join(row + "\n" for row in one))
                else:
                    self.malformed(one, at)


if __name__ == "__main__":
    unittest.main()
