"""Lengths: ratios and numbers, added, subtracted and multiplied."""

from mitrehouse.errors import NotThere, is_name
from mitrehouse.ratios import ONE, ZERO, is_ratio, minus, plus, times

DEEPEST = 8


def is_leaf(value):
    """Returns True if a tuple of two is a length without lengths in it."""
    word, part = value
    return word == "num" and is_ratio(part) or word == "of" and is_name(part)


def is_nested(value, depth):
    """Returns True if any value is a length that is nested at most so deep."""
    if depth < 1 or not isinstance(value, tuple):
        return False
    if len(value) == 2:
        return is_leaf(value)
    if len(value) != 3:
        return False
    word, part, other = value
    if word == "times":
        return is_ratio(part) and is_nested(other, depth - 1)
    return word in ("plus", "minus") and is_nested(part, depth - 1) and is_nested(other, depth - 1)


def is_length(value):
    """Returns True if any value is a length."""
    return is_nested(value, DEEPEST)


def length_worth(length, numbers):
    """Returns the worth of a length for numbers."""
    word, part = length[0], length[1]
    if word == "num":
        return part
    if word == "of":
        if part not in numbers:
            raise NotThere("a length names a number that is not there")
        return numbers[part]
    if word == "times":
        return times(part, length_worth(length[2], numbers))
    one, other = length_worth(part, numbers), length_worth(length[2], numbers)
    return plus(one, other) if word == "plus" else minus(one, other)


def names_within(length):
    """Returns the list of the names in a length, as they stand."""
    if length[0] == "num":
        return []
    if length[0] == "of":
        return [length[1]]
    if length[0] == "times":
        return names_within(length[2])
    return names_within(length[1]) + names_within(length[2])


def numbers_in(length):
    """Returns the ascending list of the names of the numbers in a length."""
    return sorted(set(names_within(length)))


def growth(length, name):
    """Returns by how much the worth of a length grows if the number grows by 1."""
    word, part = length[0], length[1]
    if word == "num":
        return ZERO
    if word == "of":
        return ONE if part == name else ZERO
    if word == "times":
        return times(part, growth(length[2], name))
    one, other = growth(part, name), growth(length[2], name)
    return plus(one, other) if word == "plus" else minus(one, other)
