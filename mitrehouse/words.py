"""The words of lengths, labels, names of faces and constraints, as they stand in texts."""

from mitrehouse.errors import NotNumber, NotRight, is_name
from mitrehouse.faces import is_face_name
from mitrehouse.lengths import DEEPEST
from mitrehouse.ratios import are_digits, read_ratio, write_ratio
from mitrehouse.sketches import FORMS

SIGNS = "abcdefghijklmnopqrstuvwxyz0123456789.-_"
MOST_SIGNS = 60


def is_written(word):
    """Returns True if a word can stand as a string of a label or a ring in a text; points of sketches are names."""
    return 1 <= len(word) <= MOST_SIGNS and all(letter in SIGNS for letter in word)


def checked_word(word):
    """Returns a string of a label or a ring that can stand in a text; raises NotRight for another one."""
    if not is_written(word):
        raise NotRight("a string has 1 to 60 small letters, digits, points, dashes and low lines")
    return word


def name_of(word):
    """Returns a string that is a name; raises NotRight for another one."""
    if not is_name(word):
        raise NotRight("it is no name")
    return word


def ratio_of(word):
    """Returns the ratio of a word; raises NotRight if it is none."""
    try:
        return read_ratio(word)
    except NotNumber:
        raise NotRight("it is no ratio") from None


def whole_of(word):
    """Returns the integer of at most 30 digits without zeros in front; raises NotRight if it is none."""
    if not are_digits(word) or str(int(word)) != word:
        raise NotRight("it is no integer of at least 0")
    return int(word)


def whole_up_to(word, most):
    """Returns the integer of a word, at most so great; raises NotRight if it is none."""
    found = whole_of(word)
    if found > most:
        raise NotRight("it is too great")
    return found


def write_length(length):
    """Returns the string of a length."""
    word, part = length[0], length[1]
    if word == "num":
        return "num " + write_ratio(part)
    if word == "of":
        return "of " + part
    first = write_ratio(part) if word == "times" else write_length(part)
    return f"{word} {first} {write_length(length[2])}"


def length_from(words, at, depth):
    """Returns the length, nested at most so deep, that begins at an index of words, and the index behind it."""
    if depth < 1 or at + 1 >= len(words):
        raise NotRight("the words of a length end too early, or are nested too deep")
    word = words[at]
    if word == "num":
        return (("num", ratio_of(words[at + 1])), at + 2)
    if word == "of":
        return (("of", name_of(words[at + 1])), at + 2)
    if word == "times":
        part, behind = ratio_of(words[at + 1]), at + 2
    elif word in ("plus", "minus"):
        part, behind = length_from(words, at + 1, depth - 1)
    else:
        raise NotRight("no length begins with this word")
    other, behind = length_from(words, behind, depth - 1)
    return ((word, part, other), behind)


def read_length(words):
    """Returns the length of a list of words."""
    found, behind = length_from(words, 0, DEEPEST)
    if behind < len(words):
        raise NotRight("words are left behind a length")
    return found


def write_label(label):
    """Returns the string of a label."""
    return f"{label[0]}:{label[1]}"


def read_label(word):
    """Returns the label of a string."""
    parts = word.split(":")
    if len(parts) != 2:
        raise NotRight("a label has just one colon")
    return (checked_word(parts[0]), checked_word(parts[1]))


def write_face_name(name):
    """Returns the string of a name of faces."""
    return " & ".join([write_label(label) for label in (name[0],) + name[1]])


def read_face_name(words):
    """Returns the name of faces of a list of words."""
    if len(words) % 2 == 0 or any(word != "&" for word in words[1::2]):
        raise NotRight("a mark stands behind each sign for it")
    labels = [read_label(word) for word in words[0::2]]
    found = (labels[0], tuple(labels[1:]))
    if not is_face_name(found):
        raise NotRight("the marks do not ascend")
    return found


def write_constraint(constraint):
    """Returns the string of a constraint."""
    many, lengths, _ = FORMS[constraint[0]]
    points, rest = constraint[1:1 + many], constraint[1 + many:]
    parts = [write_length(part) if lengths else write_ratio(part) for part in rest]
    return " ".join([constraint[0]] + list(points) + parts)


def read_constraint(words):
    """Returns the tuple of the words of a constraint; its points are names, perhaps equal ones or of no sketch."""
    if not words or words[0] not in FORMS:
        raise NotRight("no constraint begins with this word")
    many, lengths, ratios = FORMS[words[0]]
    if len(words) < 1 + many + ratios:
        raise NotRight("a constraint has too few words")
    found = [words[0]] + [name_of(word) for word in words[1:1 + many]]
    behind = 1 + many
    for _ in range(lengths):
        part, behind = length_from(words, behind, DEEPEST)
        found.append(part)
    found.extend([ratio_of(word) for word in words[behind:behind + ratios]])
    if behind + ratios < len(words):
        raise NotRight("a constraint has too many words")
    return tuple(found)
