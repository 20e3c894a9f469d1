"""Least choices: of masks, integers whose bits tell what each covers, and of indexes that are enough together."""

from itertools import combinations


def unions(masks):
    """Returns for each mask what it and all behind it cover, and 0 for none at the end."""
    found = [0]
    for mask in masks[::-1]:
        found.append(found[-1] | mask)
    return found[::-1]


def cover_from(masks, later, missing, start, size):
    """Returns the least ascending list of so many indexes, from start on, that covers what is missing, or None."""
    if size == 0:
        return [] if missing == 0 else None
    for index in range(start, len(masks)):
        # What even all masks from here on leave out stays missing.
        if missing & later[index] != missing:
            return None
        found = cover_from(masks, later, missing - (missing & masks[index]), index + 1, size - 1)
        if found is not None:
            return [index] + found
    return None


def least_cover(masks, whole):
    """Returns the shortest list of indexes of masks that cover the whole, the least of several, or None."""
    later = unions(masks)
    if later[0] & whole != whole:
        return None
    for size in range(len(masks) + 1):
        found = cover_from(masks, later, whole, 0, size)
        if found is not None:
            return found
    return None


def bits_of(chosen):
    """Returns the integer whose bits are the indexes of a tuple."""
    return sum([1 << index for index in chosen])


def least_choices(many, is_enough):
    """Returns the ascending tuples of indexes below many that are enough, and of which no part is.

    Shorter ones come first, then ascending. What has a part that is enough has to be enough, too.
    """
    found, known = [], []
    for size in range(many + 1):
        tried = 0
        for chosen in combinations(range(many), size):
            bits = bits_of(chosen)
            if not any((bits & part) == part for part in known):
                tried += 1
                if is_enough(chosen):
                    found.append(chosen)
                    known.append(bits)
        if tried == 0:
            break
    return found
