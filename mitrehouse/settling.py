"""Settled sketches: their one shape, some shapes, freedom or none, and the papers that show it."""

from mitrehouse.errors import NotRight, NotThere, TooLarge
from mitrehouse.lengths import growth
from mitrehouse.linear import (MOST_ROWS, frame, framed_rows, is_clash, least_clashes, made, needless_groups, solution,
                               solve)
from mitrehouse.ratios import ZERO, is_ratio, minus, plus, times, zeros
from mitrehouse.sketches import (dot, gap_of, grouped_rows, is_sketch, keeps_span, linear_indexes, numbers_of,
                                 sketch_groups, sketch_rows, spans_of, unknowns_of)

TWO = (2, 1)


def check(sketch, numbers):
    """Raises NotRight if a value is no sketch, then NotThere if one of its numbers is not there."""
    if not is_sketch(sketch):
        raise NotRight("it is no sketch")
    if not all(name in numbers for name in numbers_of(sketch)):
        raise NotThere("the sketch names a number that is not there")


def shape_from(sketch, values):
    """Returns the dict from the points to their pairs of values."""
    return {point: (values[point + ".x"], values[point + ".y"]) for point in sketch[0]}


def moved_along(shape, way, far):
    """Returns the shape moved by far times the way, a dict from points to pairs."""
    return {point: (plus(x, times(far, way[point][0])), plus(y, times(far, way[point][1])))
            for point, (x, y) in shape.items()}


def with_one_shape(shape, spans):
    """Returns what is told if just this shape fulfils the rows."""
    for span in spans:
        if not keeps_span(shape, span):
            return ("none", "span", span[0])
    return ("one", shape)


def square_of(shape, way, span):
    """Returns the index of a span and the three ratios of what it asks for on the line."""
    index, p, q, square = span
    start, step = gap_of(shape, p, q), gap_of(way, p, q)
    return (index, dot(step, step), times(TWO, dot(start, step)), minus(dot(start, start), square))


def common_zeros(squares):
    """Returns the list of the ratios that are zeros of all squares, a or b of each not 0, at least one."""
    found = zeros(squares[0][1], squares[0][2], squares[0][3])
    for _, a, b, c in squares:
        here = zeros(a, b, c)
        found = [far for far in found if far in here]
    return found


def on_line(shape, way, spans):
    """Returns what is told for spans if one direction is free."""
    squares = [square_of(shape, way, span) for span in spans]
    lasting = [(index, c) for index, a, b, c in squares if a == ZERO and b == ZERO]
    for index, c in lasting:
        if c != ZERO:
            return ("none", "span", index)
    asking = [square for square in squares if square[1] != ZERO or square[2] != ZERO]
    if not asking:
        return ("free", shape, [way])
    found = [moved_along(shape, way, far) for far in common_zeros(asking)]
    if not found:
        return ("none", "roots", asking[0][0])
    return ("one", found[0]) if len(found) == 1 else ("some", found)


def told_for(sketch, numbers, solved):
    """Returns what is told of a sketch for what solve tells of its rows, which do not clash."""
    shape = shape_from(sketch, solved[1])
    spans = spans_of(sketch, numbers)
    if solved[0] == "one":
        return with_one_shape(shape, spans)
    ways = [shape_from(sketch, direction) for direction in solved[2]]
    if len(ways) == 1:
        return on_line(shape, ways[0], spans)
    return ("loose" if spans else "free", shape, ways)


def settle(sketch, numbers):
    """Returns what the sketch is settled to."""
    check(sketch, numbers)
    solved = solve(sketch_rows(sketch, numbers), unknowns_of(sketch))
    if solved[0] == "none":
        return ("none", "rows", solved[1])
    return told_for(sketch, numbers, solved)


def paper_of(sketch, numbers):
    """Returns an accepted paper for the settled sketch."""
    check(sketch, numbers)
    rows, unknowns = sketch_rows(sketch, numbers), unknowns_of(sketch)
    if solve(rows, unknowns)[0] == "none":
        return None
    return frame(rows, unknowns)


def make_clash(rows, factors):
    """Returns True if factors are ratios, one for each row, that make a clash."""
    if not isinstance(factors, list) or len(factors) != len(rows) or not all(is_ratio(one) for one in factors):
        return False
    return is_clash(made(rows, factors))


def accepts(sketch, numbers, told, paper):
    """Returns True if the paper is accepted with what is told of the sketch."""
    check(sketch, numbers)
    rows = sketch_rows(sketch, numbers)
    if told[:2] == ("none", "rows"):
        return paper is None and len(told) == 3 and make_clash(rows, told[2])
    if paper is None:
        return False
    reduced = framed_rows(rows, paper)
    return reduced is not None and told == told_for(sketch, numbers, solution(reduced, unknowns_of(sketch)))


def only_shape(sketch, numbers):
    """Returns the one shape of a sketch without spans; raises NotThere if there is none."""
    told = settle(sketch, numbers)
    if told[0] != "one" or len(linear_indexes(sketch)) < len(sketch[1]):
        raise NotThere("the sketch has a span, or not just one shape")
    return told[1]


def growths(sketch, name):
    """Returns the dict from points to pairs, by how much the coordinates of the one shape grow with the number."""
    # The growths fulfil the same rows, with the growths of the lengths as their constants.
    groups = grouped_rows(sketch, lambda length: growth(length, name))
    solved = solve([row for rows in groups for row in rows], unknowns_of(sketch))
    if solved[0] == "none":
        raise NotThere("the sketch does not depend on the number")
    return shape_from(sketch, solved[1])


def depends(sketch, numbers, name):
    """Returns the dict from points to pairs, by how much the coordinates grow with the number."""
    only_shape(sketch, numbers)
    return growths(sketch, name)


def needless_ones(sketch, numbers):
    """Returns the ascending list of the indexes of the needless constraints."""
    check(sketch, numbers)
    indexes = linear_indexes(sketch)
    return [indexes[k] for k in needless_groups(sketch_groups(sketch, numbers))]


def conflicts(sketch, numbers):
    """Returns the list of the least conflicts, shorter ones first, then ascending."""
    check(sketch, numbers)
    indexes = linear_indexes(sketch)
    if len(indexes) > MOST_ROWS:
        raise TooLarge("least conflicts are looked for among at most 10 linear constraints")
    return [tuple([indexes[k] for k in chosen]) for chosen in least_clashes(sketch_groups(sketch, numbers))]


def held_points(sketch, numbers):
    """Returns the ascending list of the points that have the same place for all values."""
    check(sketch, numbers)
    solved = solve(sketch_rows(sketch, numbers), unknowns_of(sketch))
    if solved[0] == "none":
        raise NotThere("the rows of the sketch clash")
    if solved[0] == "one":
        return list(sketch[0])
    return [point for point in sketch[0]
            if all(way[point + ".x"] == ZERO and way[point + ".y"] == ZERO for way in solved[2])]
