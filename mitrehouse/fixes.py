"""Fixes: the points that hold a sketch, and the worth of a number with which a gap is as long as it is wished."""

from mitrehouse.basis import plain_basis
from mitrehouse.covers import least_choices
from mitrehouse.errors import NotRight, NotThere, TooLarge
from mitrehouse.linear import make_row, solve
from mitrehouse.ratios import ZERO, minus, over, plus
from mitrehouse.settling import check, growths, only_shape
from mitrehouse.sketches import gap_of, sketch_rows, unknowns_of

MOST_POINTS = 12


def free_ways(sketch, numbers):
    """Returns the list of the directions of the rows of a sketch; raises NotThere if the rows clash."""
    check(sketch, numbers)
    solved = solve(sketch_rows(sketch, numbers), unknowns_of(sketch))
    if solved[0] == "none":
        raise NotThere("the rows of the sketch clash")
    return solved[2] if solved[0] == "free" else []


def way_rows(ways, point):
    """Returns the two rows that say that a point stays where it is, with the multiples of the ways as unknowns."""
    return [make_row([(str(k), way[point + side]) for k, way in enumerate(ways)], ZERO) for side in (".x", ".y")]


def hold_all(many, groups):
    """Returns True if the rows of all groups are fulfilled by 0 alone for so many unknowns."""
    # Each group has two rows, so fewer groups cannot do it, and need not be looked at.
    if 2 * len(groups) < many:
        return False
    return len(plain_basis([row for rows in groups for row in rows]).leads) == many


def are_enough(sketch, numbers, points):
    """Returns True if a list of points is enough to hold a sketch."""
    ways = free_ways(sketch, numbers)
    if not all(point in sketch[0] for point in points):
        raise NotRight("a point is none of the sketch")
    return hold_all(len(ways), [way_rows(ways, point) for point in points])


def least_fixes(sketch, numbers):
    """Returns the list of the least choices of points, shorter ones first, then ascending."""
    ways = free_ways(sketch, numbers)
    points = sketch[0]
    if len(points) > MOST_POINTS:
        raise TooLarge("least fixes are looked for among at most 12 points")
    groups = [way_rows(ways, point) for point in points]
    found = least_choices(len(points), lambda chosen: hold_all(len(ways), [groups[at] for at in chosen]))
    return [tuple([points[k] for k in chosen]) for chosen in found]


def met_by(sketch, numbers, name, gap, wish):
    """Returns whether a gap is as long as it is wished for no worth of a number, for one, which is told, or for all."""
    shape, grown = only_shape(sketch, numbers), growths(sketch, name)
    p, q, axis = gap
    if p not in shape or q not in shape or name not in numbers:
        raise NotRight("a point is none of the sketch, or the number is not there")
    missing = minus(wish, gap_of(shape, p, q)[axis])
    grows = gap_of(grown, p, q)[axis]
    if grows != ZERO:
        return ("one", plus(numbers[name], over(missing, grows)))
    return ("all",) if missing == ZERO else ("none",)
