"""The journal: a desk whose lines and answers are recorded, and that can go on from a record."""

from mitrehouse.desk import Desk
from mitrehouse.errors import Malformed, MitreError
from mitrehouse.texts import ended

ASKED = "> "
ANSWERED = "< "


class Journal:
    """A desk of its own, the lines that it answered, and the rows of the record."""

    def __init__(self):
        self.desk = Desk()
        self.told = []
        self.rows = []

    def obey(self, line):
        """Returns the answer to a line, a list of lines, and records both."""
        answer = self.desk.obey(line)
        self.told.append(line)
        self.rows.append(ASKED + line)
        self.rows.extend([ANSWERED + one for one in answer])
        return answer

    def record(self):
        """Returns the record."""
        return ended(self.rows)

    def lines(self):
        """Returns the list of the recorded lines."""
        return list(self.told)


def answer_at(journal, rows, at):
    """Returns the answer of a journal to the line that is recorded in the row at an index."""
    if not rows[at].startswith(ASKED):
        raise Malformed(at)
    try:
        return journal.obey(rows[at][len(ASKED):])
    except MitreError:
        raise Malformed(at) from None


def replayed(lines):
    """Returns the journal that was given lines."""
    journal = Journal()
    for line in lines:
        journal.obey(line)
    return journal


def resume(text):
    """Returns the journal that goes on from a text that begins as a record."""
    rows = text.split("\n")[:-1]
    journal = Journal()
    at = 0
    while at < len(rows):
        answer = answer_at(journal, rows, at)
        for row, one in enumerate(answer, start=at + 1):
            if row == len(rows):
                # The last answer lacks lines; what its line has done is not taken back, but not done again.
                return replayed(journal.lines()[:-1])
            if rows[row] != ANSWERED + one:
                raise Malformed(row)
        at += 1 + len(answer)
    return journal
