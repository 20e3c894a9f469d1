"""The desk: drawings by their names, and a draft, worked on by lines that are answered by lines."""

from mitrehouse.answers import (Refused, apart_lines, borne_lines, built_lines, change_lines, chosen_lines, face_lines,
                                fate_lines, make_lines, measure_lines, merge_lines, name_lines, section_lines,
                                stand_lines, thin_lines, view_rows)
from mitrehouse.choosing import read_choice
from mitrehouse.drawings import Drawing
from mitrehouse.errors import Malformed, NotNumber, NotRight, NotThere, Stops, is_name
from mitrehouse.ratios import are_digits, read_ratio
from mitrehouse.texts import ended, history_rows, read_history
from mitrehouse.versions import merged
from mitrehouse.words import read_face_name

MOST_SIGNS = 400
MOST_STRINGS = 400
MOST_COUNT = 99999
# The kinds of the words behind the first one: a name for something new, the name of a drawing, one of a feature or
# a number, an integer, a ratio, or any word.
KINDS = {
    "text": (),
    "empty": (),
    "load": ("new",),
    "show": ("old",),
    "copy": ("new", "old"),
    "drop": ("old",),
    "set": ("old", "name", "ratio"),
    "take": ("old", "name"),
    "build": ("old",),
    "faces": ("old",),
    "name": ("old", "count"),
    "find": ("old", "any"),
    "choose": ("old", "any"),
    "measure": ("old",),
    "thin": ("old",),
    "section": ("old", "count", "ratio"),
    "view": ("old", "count"),
    "stand": ("old",),
    "make": ("old",),
    "fates": ("old", "old"),
    "changes": ("old", "old"),
    "merge": ("new", "old", "old", "old"),
    "apart": ("old", "old"),
}
# Those rows in which any number of words may follow, and the kind of these.
MORE = {"text": "any", "find": "any", "choose": "any", "apart": "old"}


def is_count(word):
    """Returns True if a word is an integer from 0 to 99999 without zeros in front."""
    return are_digits(word) and int(word) <= MOST_COUNT and str(int(word)) == word


def is_ratio_word(word):
    """Returns True if a word is a ratio as it is written."""
    try:
        read_ratio(word)
    except NotNumber:
        return False
    return True


def wrong_words(words, drawings):
    """Returns the first reason to refuse a line by its words alone, or None; drawings are those that there are."""
    if words[0] not in KINDS:
        return "word"
    kinds, rest = KINDS[words[0]], words[1:]
    more = len(rest) - len(kinds)
    if more < 0 or more > 0 and words[0] not in MORE:
        return "count"
    pairs = list(zip(list(kinds) + [MORE.get(words[0])] * more, rest))
    if not all(is_name(word) for kind, word in pairs if kind in ("new", "old", "name")):
        return "name"
    if not all(word in drawings for kind, word in pairs if kind == "old"):
        return "none"
    if not all(is_count(word) for kind, word in pairs if kind == "count"):
        return "number"
    return None if all(is_ratio_word(word) for kind, word in pairs if kind == "ratio") else "number"


def body_of(desk, name):
    """Returns the body of a drawing of a desk; raises Stops."""
    return desk.drawings[name].body()


def obey_text(desk, rest):
    """Puts a string into the draft."""
    if len(desk.draft) >= MOST_STRINGS:
        raise Refused("full")
    desk.draft.append(" ".join(rest))
    return [f"lines {len(desk.draft)}"]


def obey_empty(desk, rest):
    """Empties the draft."""
    desk.draft = []
    return ["emptied"]


def obey_load(desk, rest):
    """Makes a drawing of the draft."""
    try:
        history = read_history(ended(desk.draft))
    except Malformed as wrong:
        raise Refused(f"text {wrong.at}") from None
    except NotRight:
        raise Refused("history") from None
    desk.drawings[rest[0]] = Drawing(history)
    desk.draft = []
    return [f"loaded {len(history[1])}"]


def obey_show(desk, rest):
    """Tells the text of a drawing's history."""
    return history_rows(desk.history(rest[0]))


def obey_copy(desk, rest):
    """Makes a drawing of the history of another one."""
    desk.drawings[rest[0]] = Drawing(desk.history(rest[1]))
    return ["copied"]


def obey_drop(desk, rest):
    """Forgets a drawing."""
    del desk.drawings[rest[0]]
    return ["dropped"]


def obey_set(desk, rest):
    """Gives a number of a drawing a worth."""
    try:
        desk.drawings[rest[0]].set_number(rest[1], read_ratio(rest[2]))
    except NotRight:
        raise Refused("history") from None
    return ["set"]


def obey_take(desk, rest):
    """Takes a feature of a drawing away."""
    try:
        desk.drawings[rest[0]].drop(rest[1])
    except NotThere:
        raise Refused("feature") from None
    return [f"left {len(desk.history(rest[0])[1])}"]


def obey_build(desk, rest):
    """Tells of the body of a drawing, and what was made anew for it."""
    return built_lines(body_of(desk, rest[0]), desk.drawings[rest[0]].anew())


def obey_faces(desk, rest):
    """Tells of the faces of a drawing."""
    return face_lines(body_of(desk, rest[0]))


def obey_name(desk, rest):
    """Tells the least name of a face of a drawing, or of a twin of it."""
    return name_lines(body_of(desk, rest[0]), int(rest[1]))


def obey_find(desk, rest):
    """Tells which faces of a drawing bear a name."""
    try:
        name = read_face_name(rest[1:])
    except NotRight:
        raise Refused("name") from None
    return borne_lines(body_of(desk, rest[0]), name)


def obey_choose(desk, rest):
    """Tells which faces of a drawing have a choice."""
    try:
        choice = read_choice(" ".join(rest[1:]))
    except Malformed as wrong:
        raise Refused(f"choice {wrong.at}") from None
    return chosen_lines(body_of(desk, rest[0]), choice)


def obey_measure(desk, rest):
    """Tells the measures of a drawing."""
    return measure_lines(body_of(desk, rest[0]))


def obey_thin(desk, rest):
    """Tells the least runs and gaps of a drawing."""
    return thin_lines(body_of(desk, rest[0]))


def obey_section(desk, rest):
    """Tells of a section of a drawing."""
    axis = int(rest[1])
    if axis > 2:
        raise Refused("axis")
    return section_lines(body_of(desk, rest[0]), axis, read_ratio(rest[2]))


def obey_view(desk, rest):
    """Tells the lines of a view of a drawing."""
    direction = int(rest[1])
    if direction > 5:
        raise Refused("direction")
    return view_rows(body_of(desk, rest[0]), direction)


def obey_stand(desk, rest):
    """Tells whether a drawing stands."""
    return stand_lines(body_of(desk, rest[0]))


def obey_make(desk, rest):
    """Tells how a drawing can be made."""
    return make_lines(body_of(desk, rest[0]))


def obey_fates(desk, rest):
    """Tells the fates of the faces of a drawing in another one."""
    body = body_of(desk, rest[0])
    return fate_lines(body, body_of(desk, rest[1]))


def obey_changes(desk, rest):
    """Tells the changes from a drawing to another one."""
    return change_lines(desk.history(rest[0]), desk.history(rest[1]))


def obey_merge(desk, rest):
    """Makes a drawing of the merged history of two others with the same base."""
    told = merged(desk.history(rest[1]), desk.history(rest[2]), desk.history(rest[3]))
    if told[0] == "merged":
        desk.drawings[rest[0]] = Drawing(told[1])
    return merge_lines(told)


def obey_apart(desk, rest):
    """Tells how the bodies of drawings come apart."""
    if len(set(rest)) < len(rest):
        raise Refused("twice")
    return apart_lines({name: body_of(desk, name) for name in rest})


ACTIONS = {
    "text": obey_text,
    "empty": obey_empty,
    "load": obey_load,
    "show": obey_show,
    "copy": obey_copy,
    "drop": obey_drop,
    "set": obey_set,
    "take": obey_take,
    "build": obey_build,
    "faces": obey_faces,
    "name": obey_name,
    "find": obey_find,
    "choose": obey_choose,
    "measure": obey_measure,
    "thin": obey_thin,
    "section": obey_section,
    "view": obey_view,
    "stand": obey_stand,
    "make": obey_make,
    "fates": obey_fates,
    "changes": obey_changes,
    "merge": obey_merge,
    "apart": obey_apart,
}


def check_line(line):
    """Raises NotRight if a line is too long, or has a character that is none from the space to the tilde."""
    if len(line) > MOST_SIGNS or not all(" " <= letter <= "~" for letter in line):
        raise NotRight("a line has at most 400 characters, from the space to the tilde")


class Desk:
    """The draft, a list of strings, and the drawings by their names."""

    def __init__(self):
        self.draft = []
        self.drawings = {}

    def obey(self, line):
        """Returns the answer to a line, a list of lines."""
        check_line(line)
        words = line.split(" ")
        reason = wrong_words(words, self.drawings)
        if reason is not None:
            return ["refused " + reason]
        action = ACTIONS[words[0]]
        try:
            return action(self, words[1:])
        except Refused as wrong:
            return ["refused " + wrong.reason]
        except Stops as stop:
            return [f"stops {stop.name} {stop.reason}"]

    def names(self):
        """Returns the ascending list of the names of the drawings."""
        return sorted(self.drawings)

    def history(self, name):
        """Returns the history of a drawing."""
        if name not in self.drawings:
            raise NotThere("there is no drawing with this name")
        return self.drawings[name].history()


def answers_to(lines):
    """Returns the list of the answers of a new desk to lines."""
    desk = Desk()
    return [desk.obey(line) for line in lines]
