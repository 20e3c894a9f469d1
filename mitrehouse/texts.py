"""Texts of histories and of assemblies, written and read line by line."""

from mitrehouse.assemblies import is_assembly
from mitrehouse.errors import Malformed, NotRight
from mitrehouse.histories import DEEDS, built, check_history
from mitrehouse.ratios import write_ratio, write_whole
from mitrehouse.words import (checked_word, name_of, ratio_of, read_constraint, read_face_name, read_length, whole_of,
                              whole_up_to, write_constraint, write_face_name, write_length)

LAST_AXIS = 2
MOST_TURNS = 3


def place_row(place):
    """Returns the line of the place of a feature."""
    if place[0] == "base":
        return f"base {place[1]} {write_length(place[2])}"
    return "on " + write_face_name(place[1])


def feature_rows(feature):
    """Returns the list of the lines of a feature."""
    name, deed, place, (points, constraints), pick, rings, low, high = feature
    rows = [f"feature {name} {deed}", place_row(place), " ".join(["points"] + list(points))]
    rows.extend(["ask " + write_constraint(constraint) for constraint in constraints])
    rows.append("pick " + write_whole(pick))
    rows.extend([" ".join(["ring"] + list(ring)) for ring in rings])
    return rows + ["low " + write_length(low), "high " + write_length(high), "end"]


def history_rows(history):
    """Returns the list of the lines of a history."""
    numbers, features = history
    rows = [f"number {name} {write_ratio(worth)}" for name, worth in numbers]
    return rows + [row for feature in features for row in feature_rows(feature)]


def ended(rows):
    """Returns the text of lines, each ended by a newline."""
    return "".join([row + "\n" for row in rows])


def write_history(history):
    """Returns the text of a history."""
    return ended(history_rows(history))


def mate_row(mate):
    """Returns the line of a mate."""
    if mate[0] == "hold":
        return " ".join(["hold", mate[1]] + [write_ratio(one) for one in mate[2:]])
    _, part, face_name, other, other_name, gap = mate
    return f"mate {part} {write_face_name(face_name)} ; {other} {write_face_name(other_name)} ; {write_ratio(gap)}"


def write_assembly(parts, mates):
    """Returns the text of an assembly of parts, triples of a name, a history and a number of turns, and of mates."""
    rows = []
    for name, history, turns in parts:
        rows.extend([f"part {name} {turns}"] + history_rows(history) + ["done"])
    return ended(rows + [mate_row(mate) for mate in mates])


class Rows:
    """The lines of a text, and the index of the one that is read next."""

    def __init__(self, text):
        rows = text.split("\n")
        self.rows = rows[:-1]
        self.tail = rows[-1]
        self.at = 0

    def word(self):
        """Returns the first word of the next line, or None behind the last line that is ended."""
        if self.at == len(self.rows):
            return None
        return self.rows[self.at].split(" ")[0]

    def take(self, word, read):
        """Returns what read makes of the words behind the first one of the next line, which has to be the word."""
        if self.word() != word:
            raise Malformed(self.at)
        try:
            found = read(self.rows[self.at].split(" ")[1:])
        except NotRight:
            raise Malformed(self.at) from None
        self.at += 1
        return found

    def take_all(self, word, read):
        """Returns the list of what read makes of the next lines that begin with the word."""
        found = []
        while self.word() == word:
            found.append(self.take(word, read))
        return found

    def end(self):
        """Raises Malformed if lines are left, or the text does not end behind a newline."""
        if self.at < len(self.rows) or self.tail:
            raise Malformed(self.at)


def check_many(words, many):
    """Raises NotRight if there are not so many words."""
    if len(words) != many:
        raise NotRight("there are too many words, or too few")


def read_number(words):
    """Returns the pair of a number of the words NAME RATIO."""
    check_many(words, 2)
    return (name_of(words[0]), ratio_of(words[1]))


def read_head(words):
    """Returns the name and the deed of the words NAME DEED."""
    check_many(words, 2)
    if words[1] not in DEEDS:
        raise NotRight("it is no deed")
    return (name_of(words[0]), words[1])


def read_base(words):
    """Returns the place of the words AXIS LENGTH."""
    if not words:
        raise NotRight("there is no axis")
    return ("base", whole_up_to(words[0], LAST_AXIS), read_length(words[1:]))


def read_on(words):
    """Returns the place of the words of a name of faces."""
    return ("on", read_face_name(words))


def read_points(words):
    """Returns the tuple of any number of points of a sketch."""
    return tuple([name_of(word) for word in words])


def read_ring(words):
    """Returns the tuple of any number of corners, which may be strings that are no names."""
    return tuple([checked_word(word) for word in words])


def read_pick(words):
    """Returns the integer of one word."""
    check_many(words, 1)
    return whole_of(words[0])


def read_nothing(words):
    """Returns None for no words."""
    check_many(words, 0)


def read_part(words):
    """Returns the name and the turns of the words NAME TURNS."""
    check_many(words, 2)
    return (name_of(words[0]), whole_up_to(words[1], MOST_TURNS))


def read_hold(words):
    """Returns the mate of the words NAME A B C."""
    check_many(words, 4)
    return ("hold", name_of(words[0])) + tuple([ratio_of(word) for word in words[1:]])


def read_mate(words):
    """Returns the mate of the words NAME FACENAME ; NAME FACENAME ; GAP."""
    ends = [at for at, word in enumerate(words) if word == ";"]
    check_many(ends, 2)
    one, other, gap = words[:ends[0]], words[ends[0] + 1:ends[1]], words[ends[1] + 1:]
    check_many(gap, 1)
    if not one or not other:
        raise NotRight("a part has a name")
    return ("mate", name_of(one[0]), read_face_name(one[1:]), name_of(other[0]), read_face_name(other[1:]),
            ratio_of(gap[0]))


def feature_from(rows):
    """Returns what stands as a feature in the next lines."""
    name, deed = rows.take("feature", read_head)
    place = rows.take("on", read_on) if rows.word() == "on" else rows.take("base", read_base)
    points = rows.take("points", read_points)
    constraints = tuple(rows.take_all("ask", read_constraint))
    pick = rows.take("pick", read_pick)
    rings = tuple(rows.take_all("ring", read_ring))
    low = rows.take("low", read_length)
    high = rows.take("high", read_length)
    rows.take("end", read_nothing)
    return (name, deed, place, (points, constraints), pick, rings, low, high)


def history_from(rows):
    """Returns what stands as a history in the next lines."""
    numbers = tuple(rows.take_all("number", read_number))
    features = []
    while rows.word() == "feature":
        features.append(feature_from(rows))
    return (numbers, tuple(features))


def read_history(text):
    """Returns the history of a text."""
    rows = Rows(text)
    found = history_from(rows)
    rows.end()
    check_history(found)
    return found


def part_from(rows):
    """Returns the name, what stands as a history, and the turns of a part in the next lines."""
    name, turns = rows.take("part", read_part)
    history = history_from(rows)
    rows.take("done", read_nothing)
    return (name, history, turns)


def mates_from(rows):
    """Returns the tuple of the mates in the next lines."""
    found = []
    while rows.word() in ("hold", "mate"):
        found.append(rows.take("hold", read_hold) if rows.word() == "hold" else rows.take("mate", read_mate))
    return tuple(found)


def read_assembly(text):
    """Returns the assembly of a text, its parts built."""
    rows = Rows(text)
    parts = []
    while rows.word() == "part":
        parts.append(part_from(rows))
    mates = mates_from(rows)
    rows.end()
    for _, history, _ in parts:
        check_history(history)
    found = (tuple([(name, built(history), turns) for name, history, turns in parts]), mates)
    if not is_assembly(found):
        raise NotRight("it is no assembly")
    return found
