"""Versions: what has changed from a history to another one, and histories of two hands merged."""

from mitrehouse.errors import NotRight, NotThere, is_name
from mitrehouse.histories import check_history, is_history, names_of


def items_of(history):
    """Returns the dict from the items of a history, pairs of a word and a name, to what they are."""
    found = {("number", name): worth for name, worth in history[0]}
    for feature in history[1]:
        found["feature", feature[0]] = feature
    return found


def in_turn(items):
    """Returns the list of the keys of a dict of items, numbers first, names ascending."""
    return [item for word in ("number", "feature") for item in sorted(items) if item[0] == word]


def changes(history, other):
    """Returns the list of the changes from a history to another one, those of numbers first."""
    check_history(history)
    check_history(other)
    before, after = items_of(history), items_of(other)
    differing = {item: True for items in (before, after) for item in items if before.get(item) != after.get(item)}
    return [(word, name, after.get((word, name))) for word, name in in_turn(differing)]


def changed(history, some):
    """Returns the history behind a list of changes."""
    check_history(history)
    numbers = dict(history[0])
    features = {feature[0]: feature for feature in history[1]}
    for word, name, worth in some:
        items = numbers if word == "number" else features
        if worth is not None:
            items[name] = worth
        elif name in items:
            del items[name]
        else:
            raise NotThere("what is taken away is not there")
    if not all(is_name(name) for name in numbers):
        raise NotRight("a number has no name")
    found = (tuple(sorted(numbers.items())), tuple(features.values()))
    check_history(found)
    return found


def clashing_items(base, left, right):
    """Returns the items that differ in left and right and are in neither what they are in the base."""
    every = {item: True for items in (base, left, right) for item in items}
    return [item for item in in_turn(every) if left.get(item) != right.get(item)
            and left.get(item) != base.get(item) and right.get(item) != base.get(item)]


def merged_items(base, left, right):
    """Returns the dict of the items that are left of both hands' changes, if none of them clashes."""
    found = {}
    for items, other in ((left, right), (right, left)):
        for item, worth in items.items():
            # What the other hand lacks or has otherwise is kept if this hand has changed it.
            if other.get(item) == worth or base.get(item) != worth:
                found[item] = worth
    return found


def goes_ahead(name, other, base, here, there):
    """Returns True if a merged feature stands ahead of another one here, and not just since there alone was changed.

    base, here and there are dicts from names of features to indexes.
    """
    if name not in here or other not in here or here[name] > here[other]:
        return False
    if name not in base or other not in base or base[name] > base[other]:
        return True
    # What stands in the base and is merged has been taken away by none of both hands.
    return there[name] < there[other]


def ahead_of_all(names, base, left, right):
    """Returns the dict from names of features to the lists of those among the names that are ahead of them."""
    return {name: [other for other in names if other != name and (goes_ahead(other, name, base, left, right)
                                                                  or goes_ahead(other, name, base, right, left))]
            for name in names}


def first_in(names, ahead):
    """Returns the first one of names that none of them is ahead of, or None."""
    rest = {name: True for name in names}
    for name in names:
        if not any(other in rest for other in ahead[name]):
            return name
    return None


def merged_order(names, ahead):
    """Returns the list of the names in the merged order, and the list of those that clash in order."""
    found = []
    rest = list(names)
    while rest:
        name = first_in(rest, ahead)
        if name is None:
            break
        found.append(name)
        rest.remove(name)
    return (found, rest)


def merged(base, left, right):
    """Returns the merged history of two that were made of the base, or what clashes, or that it is too large."""
    for history in (base, left, right):
        check_history(history)
    hands = [items_of(history) for history in (base, left, right)]
    clashing = clashing_items(hands[0], hands[1], hands[2])
    if clashing:
        return ("clash", clashing, [])
    items = merged_items(hands[0], hands[1], hands[2])
    orders = [names_of(history[1]) for history in (base, left, right)]
    # Those of left come first, in its order, and then those that it has not, in the order of right.
    every = list(orders[1]) + [name for name in orders[2] if name not in orders[1]]
    names = [name for name in every if ("feature", name) in items]
    order, rest = merged_order(names, ahead_of_all(names, orders[0], orders[1], orders[2]))
    if rest:
        return ("clash", [], sorted(rest))
    numbers = [(name, items[word, name]) for word, name in in_turn(items) if word == "number"]
    found = (tuple(numbers), tuple([items["feature", name] for name in order]))
    return ("merged", found) if is_history(found) else ("large",)
