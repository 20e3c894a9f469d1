"""Sheets: numbers that are worth lengths, in which other numbers may stand."""

from mitrehouse.errors import NotRight, NotThere, is_name
from mitrehouse.lengths import growth, is_length, length_worth, numbers_in
from mitrehouse.linear import make_row, solve
from mitrehouse.ratios import ONE, ZERO, opposite

MOST_PAIRS = 40


def is_pair(value):
    """Returns True if any value is a pair of a name and a length."""
    return isinstance(value, tuple) and len(value) == 2 and is_name(value[0]) and is_length(value[1])


def is_sheet(value):
    """Returns True if any value is a sheet."""
    if not isinstance(value, tuple) or len(value) > MOST_PAIRS or not all(is_pair(pair) for pair in value):
        return False
    return all(value[k][0] < value[k + 1][0] for k in range(len(value) - 1))


def check_sheet(sheet):
    """Raises NotRight if a value is no sheet."""
    if not is_sheet(sheet):
        raise NotRight("it is no sheet")


def sheet_row(name, length):
    """Returns the row that says that the number with the name is worth the length."""
    names = numbers_in(length)
    terms = [(other, opposite(growth(length, other))) for other in names]
    return make_row([(name, ONE)] + terms, length_worth(length, {other: ZERO for other in names}))


def sheet_rows(sheet):
    """Returns the list of the rows of a sheet."""
    check_sheet(sheet)
    return [sheet_row(name, length) for name, length in sheet]


def settled_sheet(sheet):
    """Returns what solve tells of the rows of a sheet."""
    rows = sheet_rows(sheet)
    names = [other for name, length in sheet for other in [name] + numbers_in(length)]
    return solve(rows, sorted(set(names)))


def names_behind(lengths, name):
    """Returns the dict of the names on which a name hangs, for a dict from names to their lengths."""
    found = {}
    fresh = [name]
    while fresh:
        known = fresh.pop()
        for other in numbers_in(lengths[known]) if known in lengths else []:
            if other not in found:
                found[other] = True
                fresh.append(other)
    return found


def hangs_on(sheet, name):
    """Returns the ascending list of the names on which a name of a sheet hangs."""
    check_sheet(sheet)
    lengths = dict(sheet)
    if name not in lengths:
        raise NotThere("there is no such name in the sheet")
    return sorted(names_behind(lengths, name))


def plain_names(sheet):
    """Returns the ascending list of the names that hang on names of the sheet alone, and not on themselves."""
    check_sheet(sheet)
    lengths = dict(sheet)
    found = []
    for name in lengths:
        behind = names_behind(lengths, name)
        if name not in behind and all(other in lengths for other in behind):
            found.append(name)
    return found
