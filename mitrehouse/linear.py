"""Linear rows: sums of unknowns that are worth a constant, and what follows from them."""

from mitrehouse.basis import Basis, basis_of, mix, plain_basis
from mitrehouse.covers import least_choices
from mitrehouse.errors import NotRight, NotThere, TooLarge
from mitrehouse.ratios import ONE, ZERO, opposite, plus, times, total

MOST_ROWS = 10


def make_row(terms, constant):
    """Returns the row of a list of pairs of an unknown and a ratio, equal unknowns added up."""
    sums = {}
    for unknown, one in terms:
        mix(sums, ONE, {unknown: one})
    return (tuple(sorted(sums.items())), constant)


def worth(row, values):
    """Returns the sum of the terms of a row for values."""
    return total([times(one, values.get(unknown, ZERO)) for unknown, one in row[0]])


def fulfils(rows, values):
    """Returns True if values fulfil all rows of a list."""
    return all(worth(row, values) == row[1] for row in rows)


def made(rows, factors):
    """Returns the row that factors make of a list of rows."""
    if len(rows) != len(factors):
        raise NotRight("there is one factor for each row")
    sums = {}
    constant = ZERO
    for row, factor in zip(rows, factors):
        if factor != ZERO:
            mix(sums, factor, dict(row[0]))
            constant = plus(constant, times(factor, row[1]))
    return (tuple(sorted(sums.items())), constant)


def is_clash(row):
    """Returns True if a row has no terms, and a constant that is not 0."""
    return not row[0] and row[1] != ZERO


def are_strictly_ascending(values):
    """Returns True if each value of a list is greater than the one before."""
    return all(values[k] < values[k + 1] for k in range(len(values) - 1))


def check_unknowns(rows, unknowns):
    """Raises NotRight if unknowns do not ascend strictly, or lack one of a row."""
    if not are_strictly_ascending(unknowns):
        raise NotRight("the unknowns do not ascend strictly")
    known = {unknown: True for unknown in unknowns}
    if not all(unknown in known for row in rows for unknown, _ in row[0]):
        raise NotRight("a row has an unknown that is not told")


def factor_list(factors, many):
    """Returns the list of so many factors of a dict from indexes, which lacks those that are 0."""
    return [factors.get(index, ZERO) for index in range(many)]


def plain_values(lines, unknowns):
    """Returns the plain values for a dict from leads to their reduced rows."""
    return {unknown: lines[unknown][1] if unknown in lines else ZERO for unknown in unknowns}


def direction_of(free, lines, unknowns):
    """Returns the direction of a free unknown for a dict from leads to their reduced rows."""
    found = {unknown: ZERO for unknown in unknowns}
    found[free] = ONE
    for lead, row in lines.items():
        found[lead] = opposite(dict(row[0]).get(free, ZERO))
    return found


def solution(reduced, unknowns):
    """Returns what solve tells for rows that have values, by their reduced rows."""
    lines = {row[0][0][0]: row for row in reduced}
    values = plain_values(lines, unknowns)
    directions = [direction_of(unknown, lines, unknowns) for unknown in unknowns if unknown not in lines]
    if not directions:
        return ("one", values)
    return ("free", values, directions)


def solve(rows, unknowns):
    """Returns factors that make a clash of the rows, or all values that fulfil them."""
    check_unknowns(rows, unknowns)
    basis = basis_of(rows)
    if basis.clash is not None:
        return ("none", factor_list(basis.clash.factors, len(rows)))
    return solution(basis.reduced(), unknowns)


def settled_basis(rows, unknowns):
    """Returns the basis of rows that have values."""
    check_unknowns(rows, unknowns)
    basis = basis_of(rows)
    if basis.clash is not None:
        raise NotThere("the rows make a clash")
    return basis


def reduced_rows(rows, unknowns):
    """Returns the list of the reduced rows."""
    return settled_basis(rows, unknowns).reduced()


def frame(rows, unknowns):
    """Returns an accepted frame for rows and unknowns."""
    lines = settled_basis(rows, unknowns).leads
    return [(lead, factor_list(lines[lead].factors, len(rows))) for lead in sorted(lines)]


def has_leads(row, lead, leads):
    """Returns True if a row begins with the lead, once, and has no other one of a dict of leads."""
    if not row[0] or row[0][0] != (lead, ONE):
        return False
    return all(unknown == lead or unknown not in leads for unknown, _ in row[0])


def left_over(row, lines):
    """Returns a row less the lines of a dict from leads, each times the ratio that the row has for its lead."""
    terms = dict(row[0])
    constant = row[1]
    for lead, factor in row[0]:
        if lead in lines:
            mix(terms, opposite(factor), dict(lines[lead][0]))
            constant = plus(constant, times(opposite(factor), lines[lead][1]))
    return (tuple(sorted(terms.items())), constant)


def framed_rows(rows, pairs):
    """Returns the rows that the pairs of a frame make, or None if it is not accepted."""
    if any(len(factors) != len(rows) for _, factors in pairs):
        return None
    if not are_strictly_ascending([lead for lead, _ in pairs]):
        return None
    lines = {lead: made(rows, factors) for lead, factors in pairs}
    if not all(has_leads(row, lead, lines) for lead, row in lines.items()):
        return None
    if any(left_over(row, lines) != ((), ZERO) for row in rows):
        return None
    return list(lines.values())


def accepts_frame(rows, frame):
    """Returns True if a frame is accepted for rows."""
    return framed_rows(rows, frame) is not None


def follows(rows, row):
    """Returns factors that make a row of the rows, or None."""
    line = basis_of(rows).rest(row, {})
    if line.terms or line.constant != ZERO:
        return None
    return [opposite(factor) for factor in factor_list(line.factors, len(rows))]


def needless_groups(groups):
    """Returns the indexes of those lists of rows of which all rows follow from the lists ahead."""
    basis = Basis()
    found = []
    for index, rows in enumerate(groups):
        if all(basis.has(row) for row in rows):
            found.append(index)
        for row in rows:
            basis.put(row, {})
    return found


def needless(rows):
    """Returns the ascending list of the indexes of the rows that follow from those ahead."""
    return needless_groups([[row] for row in rows])


def shortened(groups, leads):
    """Returns lists of rows with the terms of the leads alone."""
    return [[(tuple([term for term in row[0] if term[0] in leads]), row[1]) for row in rows] for rows in groups]


def is_conflict(groups, chosen):
    """Returns True if the rows of the chosen lists make a clash."""
    return plain_basis([row for index in chosen for row in groups[index]]).clash is not None


def least_clashes(groups):
    """Returns the least sets of lists of rows that clash, shorter ones first, then ascending."""
    basis = plain_basis([row for rows in groups for row in rows])
    if basis.clash is None:
        return []
    # Factors that take away the leads take away all unknowns: so the others need not be looked at.
    short = shortened(groups, basis.leads)
    return least_choices(len(groups), lambda chosen: is_conflict(short, chosen))


def least_conflicts(rows):
    """Returns the list of the least conflicts, shorter ones first, then ascending."""
    if len(rows) > MOST_ROWS:
        raise TooLarge("least conflicts are looked for among at most 10 rows")
    return least_clashes([[row] for row in rows])
