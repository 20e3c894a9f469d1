"""Ranges: outlines that change with a number, and how far gaps reach if numbers have leeways."""

from itertools import combinations

from mitrehouse.errors import NotRight
from mitrehouse.outlines import fault, region
from mitrehouse.ratios import ONE, ZERO, ascending, minus, over, plus, sign, times, total
from mitrehouse.settling import growths, only_shape
from mitrehouse.sketches import gap_of, numbers_of

HALF = (1, 2)
NO_LINE = ((0, 1), (0, 1))


def place_lines(sketch, numbers, name, rings):
    """Returns the dict from the corners to the pairs of their lines, of x and of y.

    A line is a pair of ratios: what a coordinate is where the number is worth 0, and by how much it grows with it.
    """
    shape = only_shape(sketch, numbers)
    grown = growths(sketch, name)
    corners = [corner for ring in rings for corner in ring]
    if name not in numbers or not all(corner in shape for corner in corners):
        raise NotRight("a corner is no point of the sketch, or the number is not there")
    found = {}
    for corner in corners:
        found[corner] = tuple([(minus(at, times(grows, numbers[name])), grows)
                               for at, grows in zip(shape[corner], grown[corner])])
    return found


def worth_at(line, at):
    """Returns the worth of a line where the number is worth so much."""
    return plus(line[0], times(line[1], at))


def breaks_of(lines):
    """Returns the ascending list of the worths for which lines meet that are not the same."""
    found = []
    for axis in (0, 1):
        different = list({pair[axis]: True for pair in lines.values()})
        for one, other in combinations(different, 2):
            if one[1] != other[1]:
                found.append(over(minus(other[0], one[0]), minus(one[1], other[1])))
    return ascending(found)


def breaks(sketch, numbers, name, rings):
    """Returns the list of the worths of a number for which two corners meet along an axis, but not always."""
    return breaks_of(place_lines(sketch, numbers, name, rings))


def amid(low, high):
    """Returns a ratio between two ratios, of which None is no bound."""
    if low is None:
        return ZERO if high is None else minus(high, ONE)
    return plus(low, ONE) if high is None else times(HALF, plus(low, high))


def line_minus(one, other):
    """Returns the difference of two lines."""
    return (minus(one[0], other[0]), minus(one[1], other[1]))


def line_plus(one, other):
    """Returns the sum of two lines."""
    return (plus(one[0], other[0]), plus(one[1], other[1]))


def step_lines(lines, places, cuts, axis):
    """Returns the list of the lines of the lengths between neighbouring cuts along an axis."""
    # Corners at the same cut have the same line here, since no break lies at this worth.
    at_cuts = {places[corner][axis]: pair[axis] for corner, pair in lines.items()}
    return [line_minus(at_cuts[cuts[k + 1]], at_cuts[cuts[k]]) for k in range(len(cuts) - 1)]


def area_of(lines, places, rings):
    """Returns the triple (a, b, c) of the area of an outline with the places, a * w * w + b * w + c."""
    xs, ys, cells = region(places, rings)
    widths, heights = step_lines(lines, places, xs, 0), step_lines(lines, places, ys, 1)
    rows = [NO_LINE for _ in heights]
    for i, j in cells:
        rows[j] = line_plus(rows[j], widths[i])
    pairs = list(zip(rows, heights))
    mixed = [plus(times(row[0], high[1]), times(row[1], high[0])) for row, high in pairs]
    return (total([times(row[1], high[1]) for row, high in pairs]), total(mixed),
            total([times(row[0], high[0]) for row, high in pairs]))


def told_at(lines, rings, at):
    """Returns the fault of the rings where the number is worth so much, or the triple of the area around it."""
    places = {corner: tuple([worth_at(line, at) for line in pair]) for corner, pair in lines.items()}
    wrong = fault(places, rings)
    return area_of(lines, places, rings) if wrong is None else wrong


def stretches(sketch, numbers, name, rings):
    """Returns the list of the stretches between, below and above the breaks, with the fault or the area there."""
    lines = place_lines(sketch, numbers, name, rings)
    ends = [None] + breaks_of(lines) + [None]
    return [(ends[k], ends[k + 1], told_at(lines, rings, amid(ends[k], ends[k + 1]))) for k in range(len(ends) - 1)]


def widened(sketch, numbers, leeways, p, q, axis):
    """Returns the gap from p to q along an axis, and the list of the pairs of a name and how far it widens it."""
    shape = only_shape(sketch, numbers)
    grown = {name: growths(sketch, name) for name in numbers_of(sketch)}
    if p not in shape or q not in shape or any(sign(leeway) < 0 for leeway in leeways.values()):
        raise NotRight("a point is none of the sketch, or a leeway is below 0")
    found = []
    for name in sorted(leeways):
        if name in grown:
            above, below = times(gap_of(grown[name], p, q)[axis], leeways[name])
            found.append((name, (abs(above), below)))
    return (gap_of(shape, p, q)[axis], found)


def reach(sketch, numbers, leeways, p, q, axis):
    """Returns the pair of the least and the greatest worth of the gap from p to q along an axis."""
    gap, wide = widened(sketch, numbers, leeways, p, q, axis)
    far = total([one for _, one in wide])
    return (minus(gap, far), plus(gap, far))


def shares(sketch, numbers, leeways, p, q, axis):
    """Returns the list of the pairs of a name of a number and the ratio by which its leeway widens the reach."""
    _, wide = widened(sketch, numbers, leeways, p, q, axis)
    return [pair for pair in wide if pair[1] != ZERO]
