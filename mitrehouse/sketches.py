"""Sketches: points under constraints, and the rows that these ask for."""

from mitrehouse.errors import is_name
from mitrehouse.lengths import is_length, length_worth, numbers_in
from mitrehouse.linear import fulfils, make_row
from mitrehouse.ratios import ONE, ZERO, is_ratio, minus, opposite, plus, times

MOST_POINTS = 24
MOST_CONSTRAINTS = 40
# For each word: how many points stand behind it, how many lengths then, and how many ratios.
FORMS = {
    "fix": (1, 2, 0),
    "level": (2, 0, 0),
    "plumb": (2, 0, 0),
    "across": (2, 1, 0),
    "up": (2, 1, 0),
    "even": (4, 0, 0),
    "turn": (4, 0, 0),
    "part": (3, 0, 1),
    "wide": (4, 0, 1),
    "high": (4, 0, 1),
    "span": (2, 1, 0),
}
# Along which axis those words look that ask for one part of a gap.
SIDES = {"level": ".y", "plumb": ".x", "across": ".x", "up": ".y", "wide": ".x", "high": ".y"}
MINUS_ONE = (-1, 1)


def are_points(value):
    """Returns True if any value is a tuple of 1 to 24 strictly ascending names."""
    if not isinstance(value, tuple) or not 1 <= len(value) <= MOST_POINTS:
        return False
    return all(is_name(point) for point in value) and all(value[k] < value[k + 1] for k in range(len(value) - 1))


def are_apart(points):
    """Returns True if those of the points of a constraint are different that have to be."""
    if len(points) == 3:
        return len(set(points)) == 3
    return all(p != q for p, q in zip(points[0::2], points[1::2]))


def is_constraint(value, points):
    """Returns True if any value is a constraint on the points."""
    if not isinstance(value, tuple) or not value or not isinstance(value[0], str) or value[0] not in FORMS:
        return False
    many, lengths, ratios = FORMS[value[0]]
    if len(value) != 1 + many + lengths + ratios:
        return False
    ends = value[1:1 + many]
    if not all(point in points for point in ends) or not are_apart(ends):
        return False
    rest = value[1 + many:]
    return all(is_length(part) if lengths else is_ratio(part) for part in rest)


def is_sketch(value):
    """Returns True if any value is a sketch."""
    if not isinstance(value, tuple) or len(value) != 2 or not are_points(value[0]):
        return False
    points, constraints = value
    if not isinstance(constraints, tuple) or len(constraints) > MOST_CONSTRAINTS:
        return False
    return all(is_constraint(constraint, points) for constraint in constraints)


def lengths_of(constraint):
    """Returns the lengths of a constraint."""
    many, lengths, _ = FORMS[constraint[0]]
    return constraint[1 + many:1 + many + lengths]


def numbers_of(sketch):
    """Returns the ascending list of the names of numbers in a sketch."""
    return sorted({name for constraint in sketch[1] for length in lengths_of(constraint)
                   for name in numbers_in(length)})


def is_linear(constraint):
    """Returns True if a constraint is none on the squares of a gap."""
    return constraint[0] != "span"


def linear_indexes(sketch):
    """Returns the ascending list of the indexes of the linear constraints."""
    return [index for index, constraint in enumerate(sketch[1]) if is_linear(constraint)]


def gap_terms(p, q, side, factor):
    """Returns the terms of factor times a part of the gap from p to q, side being .x or .y."""
    return [(q + side, factor), (p + side, opposite(factor))]


def fix_rows(constraint, worth_of):
    """Returns the rows of fix."""
    _, p, a, b = constraint
    return [make_row([(p + ".x", ONE)], worth_of(a)), make_row([(p + ".y", ONE)], worth_of(b))]


def turn_rows(constraint):
    """Returns the rows of turn."""
    _, p, q, r, s = constraint
    across = gap_terms(p, q, ".x", ONE) + gap_terms(r, s, ".y", ONE)
    up = gap_terms(p, q, ".y", ONE) + gap_terms(r, s, ".x", MINUS_ONE)
    return [make_row(across, ZERO), make_row(up, ZERO)]


def even_rows(constraint):
    """Returns the rows of even."""
    _, p, q, r, s = constraint
    return [make_row(gap_terms(p, q, side, ONE) + gap_terms(r, s, side, MINUS_ONE), ZERO) for side in (".x", ".y")]


def part_rows(constraint):
    """Returns the rows of part."""
    _, m, p, q, factor = constraint
    less = opposite(factor)
    return [make_row(gap_terms(p, m, side, ONE) + gap_terms(p, q, side, less), ZERO) for side in (".x", ".y")]


def side_rows(constraint, worth_of):
    """Returns the row of a constraint that asks for one part of a gap."""
    side = SIDES[constraint[0]]
    terms = gap_terms(constraint[1], constraint[2], side, ONE)
    if constraint[0] in ("wide", "high"):
        _, _, _, r, s, factor = constraint
        return [make_row(terms + gap_terms(r, s, side, opposite(factor)), ZERO)]
    lengths = lengths_of(constraint)
    return [make_row(terms, worth_of(lengths[0]) if lengths else ZERO)]


def rows_of(constraint, worth_of):
    """Returns the rows of a linear constraint; worth_of tells the worth of a length."""
    word = constraint[0]
    if word == "fix":
        return fix_rows(constraint, worth_of)
    if word == "turn":
        return turn_rows(constraint)
    if word == "even":
        return even_rows(constraint)
    if word == "part":
        return part_rows(constraint)
    return side_rows(constraint, worth_of)


def grouped_rows(sketch, worth_of):
    """Returns the list of the lists of the rows of each linear constraint."""
    return [rows_of(constraint, worth_of) for constraint in sketch[1] if is_linear(constraint)]


def sketch_groups(sketch, numbers):
    """Returns the list of the lists of the rows of each linear constraint for numbers."""
    return grouped_rows(sketch, lambda length: length_worth(length, numbers))


def sketch_rows(sketch, numbers):
    """Returns the list of the rows of a sketch for numbers."""
    return [row for rows in sketch_groups(sketch, numbers) for row in rows]


def owners(sketch):
    """Returns the list of the indexes of the constraints to which the rows belong."""
    groups = grouped_rows(sketch, lambda length: ZERO)
    return [index for index, rows in zip(linear_indexes(sketch), groups) for _ in rows]


def unknowns_of(sketch):
    """Returns the ascending list of the unknowns of a sketch."""
    return sorted([point + side for point in sketch[0] for side in (".x", ".y")])


def spans_of(sketch, numbers):
    """Returns a tuple of the index, both points and the worth of the length for each span."""
    return [(index, constraint[1], constraint[2], length_worth(constraint[3], numbers))
            for index, constraint in enumerate(sketch[1]) if not is_linear(constraint)]


def gap_of(shape, p, q):
    """Returns the gap from p to q in a dict from points to pairs of ratios."""
    return (minus(shape[q][0], shape[p][0]), minus(shape[q][1], shape[p][1]))


def dot(one, other):
    """Returns the sum of the products of the parts of two gaps."""
    return plus(times(one[0], other[0]), times(one[1], other[1]))


def keeps_span(shape, span):
    """Returns True if one of spans_of is true with a shape."""
    _, p, q, square = span
    found = gap_of(shape, p, q)
    return dot(found, found) == square


def values_of(shape):
    """Returns the values of the unknowns for a dict from points to pairs of ratios."""
    found = {}
    for point, (x, y) in shape.items():
        found[point + ".x"] = x
        found[point + ".y"] = y
    return found


def is_shape(sketch, numbers, shape):
    """Returns True if a dict from points to pairs of ratios is a shape of the sketch."""
    if sorted(shape) != list(sketch[0]) or not fulfils(sketch_rows(sketch, numbers), values_of(shape)):
        return False
    return all(keeps_span(shape, span) for span in spans_of(sketch, numbers))
