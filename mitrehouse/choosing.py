"""Choices of faces: by where they look, their labels, areas, planes and neighbours, and the texts of choices."""

from mitrehouse.errors import Malformed, NotNumber
from mitrehouse.faces import face_area, face_plane, roster_of
from mitrehouse.grids import is_direction
from mitrehouse.ratios import is_less, is_ratio, read_ratio, write_ratio

DEEPEST = 6
DIRECTIONS = ("0", "1", "2", "3", "4", "5")
# The kinds of the parts of a choice, behind its word.
PARTS = {
    "looks": ("direction",),
    "of": ("string",),
    "side": ("string",),
    "area": ("ratio", "ratio"),
    "plane": ("ratio", "ratio"),
    "beside": ("choice",),
    "not": ("choice",),
    "and": ("choice", "choice"),
    "or": ("choice", "choice"),
}


def is_part(value, kind, depth):
    """Returns True if any value is a part of the kind, choices nested at most so deep."""
    if kind == "direction":
        return is_direction(value)
    if kind == "string":
        return isinstance(value, str)
    return is_ratio(value) if kind == "ratio" else is_nested(value, depth)


def is_nested(value, depth):
    """Returns True if any value is a choice that is nested at most so deep."""
    if depth < 1 or not isinstance(value, tuple) or not value:
        return False
    if not isinstance(value[0], str) or value[0] not in PARTS:
        return False
    kinds = PARTS[value[0]]
    return len(value) == 1 + len(kinds) and all(is_part(part, kind, depth - 1) for part, kind in zip(value[1:], kinds))


def is_choice(value):
    """Returns True if any value is a choice."""
    return is_nested(value, DEEPEST)


def is_from(one, low, high):
    """Returns True if a ratio is from low to high."""
    return not is_less(one, low) and not is_less(high, one)


def has_plainly(body, face, choice):
    """Returns True if a face has a choice in which there are no choices."""
    (name, string), direction, _ = face
    word, part = choice[0], choice[1]
    if word == "looks":
        return direction == part
    if word == "of":
        return name == part
    if word == "side":
        return string == part
    return is_from(face_area(body, face) if word == "area" else face_plane(body, face), part, choice[2])


def having(roster, choice):
    """Returns for each face of a roster whether it has a choice."""
    word = choice[0]
    if "choice" not in PARTS[word]:
        return [has_plainly(roster.solid, face, choice) for face in roster.faces]
    first = having(roster, choice[1])
    if word == "not":
        return [not has for has in first]
    if word == "beside":
        return [any(first[other] for other in near) for near in roster.beside()]
    pairs = list(zip(first, having(roster, choice[2])))
    return [one and other for one, other in pairs] if word == "and" else [one or other for one, other in pairs]


def chosen(body, choice):
    """Returns the ascending list of the indexes of the faces of a body that have a choice."""
    return [index for index, has in enumerate(having(roster_of(body), choice)) if has]


def write_part(part, kind):
    """Returns the text of a part of the kind."""
    if kind == "choice":
        return write_choice(part)
    return write_ratio(part) if kind == "ratio" else str(part)


def write_choice(choice):
    """Returns the text of a choice."""
    parts = [write_part(part, kind) for part, kind in zip(choice[1:], PARTS[choice[0]])]
    return " ".join([choice[0]] + parts)


def plain_part(word, kind, at):
    """Returns the part of the kind, no choice, that is the word at an index."""
    if kind == "string":
        return word
    if kind == "direction":
        if word not in DIRECTIONS:
            raise Malformed(at)
        return int(word)
    try:
        return read_ratio(word)
    except NotNumber:
        raise Malformed(at) from None


def part_from(words, at, kind, depth):
    """Returns the part of the kind that begins at an index of words, and the index behind it."""
    if kind == "choice":
        return choice_from(words, at, depth)
    if at == len(words):
        raise Malformed(at)
    return (plain_part(words[at], kind, at), at + 1)


def choice_from(words, at, depth):
    """Returns the choice, nested at most so deep, that begins at an index of words, and the index behind it."""
    if at == len(words) or depth < 1 or words[at] not in PARTS:
        raise Malformed(at)
    found = [words[at]]
    behind = at + 1
    for kind in PARTS[words[at]]:
        part, behind = part_from(words, behind, kind, depth - 1)
        found.append(part)
    return (tuple(found), behind)


def read_choice(text):
    """Returns the choice of which a string is the text."""
    words = text.split(" ")
    found, behind = choice_from(words, 0, DEEPEST)
    if behind < len(words):
        raise Malformed(behind)
    return found
