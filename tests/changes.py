"""Values with one thing in them changed: for tests that take papers, which must not take wrong ones."""


def changed_lists(value):
    """Returns lists, or tuples, with one item left out, doubled, exchanged with the next one, or put in elsewhere."""
    kind = list if isinstance(value, list) else tuple
    items = list(value)
    found = []
    for k in range(len(items)):
        found += [items[:k] + items[k + 1:], items[:k + 1] + items[k:],
                  items[:k] + items[k + 1:k + 2] + [items[k]] + items[k + 2:], [items[k]] + items]
    return [kind(one) for one in found]


def is_ratio_like(value):
    return isinstance(value, tuple) and len(value) == 2 and all(isinstance(one, int) for one in value)


def changed_leaves(value, tuples):
    """Returns other values in the place of a ratio, an integer, a string or None."""
    if is_ratio_like(value):
        above, below = value
        return [(above + below, below), (-above, below), (0, 1), (1, 1)]
    if isinstance(value, int):
        return [value + 1, value - 1, -1]
    if isinstance(value, str):
        return [value + "x", value[:-1], "a", ""]
    return [] if value is None else changed(value, tuples)


def changed_dicts(value, tuples):
    """Returns dicts with another value, one left out, or one under another string."""
    found = []
    for key in value:
        found += [{**value, key: one} for one in changed_leaves(value[key], tuples)]
        found.append({one: value[one] for one in value if one != key})
        if isinstance(key, str):
            found.append({(one + "x" if one == key else one): value[one] for one in value})
    return found


def changed(value, tuples=False):
    """Returns values that are as a told one but for one thing in it, told by lists, tuples, dicts and leaves.

    Tuples keep their form, that is, the number and the order of their items, if nothing else is asked for.
    """
    if isinstance(value, dict):
        return changed_dicts(value, tuples)
    if not isinstance(value, (list, tuple)) or is_ratio_like(value):
        return []
    kind = list if isinstance(value, list) else tuple
    items = list(value)
    found = changed_lists(value) if tuples or kind == list else []
    for k in range(len(items)):
        found += [kind(items[:k] + [one] + items[k + 1:]) for one in changed_leaves(items[k], tuples)]
    return [one for one in found if one != value]
