"""The checker of rows: clashes, values and frames are taken if they are right, without any search."""

from mitrehouse.ratios import ONE, ZERO, is_ratio, minus, plus, times


def mixed(rows, factors):
    """Returns the dict of the terms, 0 left out, and the constant of the row that factors make, one for each row."""
    sums = {}
    constant = ZERO
    for (terms, asked), factor in zip(rows, factors):
        if factor != ZERO:
            constant = plus(constant, times(factor, asked))
            for unknown, one in terms:
                sums[unknown] = plus(sums.get(unknown, ZERO), times(factor, one))
    return ({unknown: one for unknown, one in sums.items() if one != ZERO}, constant)


def are_factors(rows, factors):
    """Returns True if there is one ratio for each row."""
    return len(factors) == len(rows) and all(is_ratio(factor) for factor in factors)


def takes_clash(rows, factors):
    """Returns True if factors make a clash of rows."""
    if not are_factors(rows, factors):
        return False
    terms, constant = mixed(rows, factors)
    return not terms and constant != ZERO


def takes_values(rows, values):
    """Returns True if a dict from unknowns to ratios fulfils the rows; an unknown that it lacks is worth 0."""
    if not all(is_ratio(one) for one in values.values()):
        return False
    for terms, constant in rows:
        found = ZERO
        for unknown, one in terms:
            found = plus(found, times(one, values.get(unknown, ZERO)))
        if found != constant:
            return False
    return True


def has_lead(terms, lead, leads):
    """Returns True if a lead is the first one of terms, with the ratio 1, and no other one of leads is among them."""
    if terms.get(lead) != ONE:
        return False
    return all(unknown == lead or unknown > lead and unknown not in leads for unknown in terms)


def is_made_of(row, lines):
    """Returns True if a row is the sum of lines, a dict by leads, each times the ratio that it has for the lead."""
    terms, constant = row
    left = {unknown: one for unknown, one in terms}
    for lead, factor in terms:
        if lead in lines:
            line, asked = lines[lead]
            constant = minus(constant, times(factor, asked))
            for unknown, one in line.items():
                left[unknown] = minus(left.get(unknown, ZERO), times(factor, one))
    return constant == ZERO and all(one == ZERO for one in left.values())


def framed_lines(rows, frame):
    """Returns the dict from the leads of a frame to the terms and constants that it makes, or None if it is wrong."""
    leads = [lead for lead, _ in frame]
    if any(leads[k] >= leads[k + 1] for k in range(len(leads) - 1)):
        return None
    if not all(are_factors(rows, factors) for _, factors in frame):
        return None
    lines = {lead: mixed(rows, factors) for lead, factors in frame}
    if not all(has_lead(terms, lead, lines) for lead, (terms, _) in lines.items()):
        return None
    if not all(is_made_of(row, lines) for row in rows):
        return None
    return lines


def takes_frame(rows, frame):
    """Returns True if a frame is accepted for rows."""
    return framed_lines(rows, frame) is not None
