"""The checker of sketches: what is told of them, shapes and drags are taken if their papers show it."""

from mitrehouse.checkrows import are_factors, framed_lines, mixed, takes_clash, takes_values
from mitrehouse.errors import NotRight, NotThere, is_name
from mitrehouse.ratios import ONE, ZERO, is_ratio, minus, opposite, plus, times, zeros

MOST_POINTS = 24
MOST_CONSTRAINTS = 40
DEEPEST = 8
MINUS_ONE = (-1, 1)
# For each word the kinds of its parts: two points that differ are a pair, three a trio.
KINDS = {
    "fix": ("point", "length", "length"),
    "level": ("pair",),
    "plumb": ("pair",),
    "across": ("pair", "length"),
    "up": ("pair", "length"),
    "even": ("pair", "pair"),
    "turn": ("pair", "pair"),
    "part": ("trio", "ratio"),
    "wide": ("pair", "pair", "ratio"),
    "high": ("pair", "pair", "ratio"),
    "span": ("pair", "length"),
}
SIZES = {"point": 1, "pair": 2, "trio": 3, "length": 1, "ratio": 1}


def is_length(value, depth):
    """Returns True if any value is a length that is nested at most so deep."""
    if depth == 0 or not isinstance(value, tuple) or len(value) not in (2, 3):
        return False
    word = value[0]
    if len(value) == 2:
        return is_ratio(value[1]) if word == "num" else word == "of" and is_name(value[1])
    if word == "times":
        return is_ratio(value[1]) and is_length(value[2], depth - 1)
    return word in ("plus", "minus") and is_length(value[1], depth - 1) and is_length(value[2], depth - 1)


def worth_of(length, numbers):
    """Returns the worth of a length; raises NotThere if a number is not there."""
    word, part = length[0], length[1]
    if word == "num":
        return part
    if word == "of":
        if part not in numbers:
            raise NotThere("a length names a number that is not there")
        return numbers[part]
    last = worth_of(length[2], numbers)
    if word == "times":
        return times(part, last)
    first = worth_of(part, numbers)
    return plus(first, last) if word == "plus" else minus(first, last)


def are_of_kind(parts, kind, points):
    """Returns True if the parts of a constraint, as many as are due, are of the kind."""
    if kind == "length":
        return is_length(parts[0], DEEPEST)
    if kind == "ratio":
        return is_ratio(parts[0])
    if not all(point in points for point in parts):
        return False
    return all(parts[k] not in parts[:k] for k in range(len(parts)))


def is_constraint(value, points):
    """Returns True if any value is a constraint on the points."""
    if not isinstance(value, tuple) or not value or not isinstance(value[0], str) or value[0] not in KINDS:
        return False
    kinds = KINDS[value[0]]
    if len(value) != 1 + sum([SIZES[kind] for kind in kinds]):
        return False
    at = 1
    for kind in kinds:
        if not are_of_kind(value[at:at + SIZES[kind]], kind, points):
            return False
        at += SIZES[kind]
    return True


def is_sketch(value):
    """Returns True if any value is a sketch."""
    if not isinstance(value, tuple) or len(value) != 2:
        return False
    points, constraints = value
    if not isinstance(points, tuple) or not 1 <= len(points) <= MOST_POINTS or not all(is_name(p) for p in points):
        return False
    if any(points[k] >= points[k + 1] for k in range(len(points) - 1)):
        return False
    if not isinstance(constraints, tuple) or len(constraints) > MOST_CONSTRAINTS:
        return False
    return all(is_constraint(constraint, points) for constraint in constraints)


def check_sketch(sketch):
    """Raises NotRight if a value is no sketch."""
    if not is_sketch(sketch):
        raise NotRight("it is no sketch")


def row_of(terms, constant):
    """Returns the row of a list of pairs of an unknown, perhaps several times, and a ratio, and of a constant."""
    sums = {}
    for unknown, one in terms:
        sums[unknown] = plus(sums.get(unknown, ZERO), one)
    return (tuple([(unknown, sums[unknown]) for unknown in sorted(sums) if sums[unknown] != ZERO]), constant)


def gap_row(side, gap, other, factor):
    """Returns the row that a part of a gap, a pair of points, is factor times that of another one; side is .x or .y."""
    (p, q), (r, s) = gap, other
    return row_of([(q + side, ONE), (p + side, MINUS_ONE), (s + side, opposite(factor)), (r + side, factor)], ZERO)


def turn_rows(p, q, r, s):
    """Returns the rows of turn."""
    across = [(q + ".x", ONE), (p + ".x", MINUS_ONE), (s + ".y", ONE), (r + ".y", MINUS_ONE)]
    up = [(q + ".y", ONE), (p + ".y", MINUS_ONE), (s + ".x", MINUS_ONE), (r + ".x", ONE)]
    return [row_of(across, ZERO), row_of(up, ZERO)]


def length_rows(constraint, worths):
    """Returns the rows of a constraint that asks for lengths of these worths, or for one part of a gap to be 0."""
    if constraint[0] == "fix":
        return [row_of([(constraint[1] + side, ONE)], worth) for side, worth in zip((".x", ".y"), worths)]
    side = ".x" if constraint[0] in ("plumb", "across") else ".y"
    terms = [(constraint[2] + side, ONE), (constraint[1] + side, MINUS_ONE)]
    return [row_of(terms, worths[0] if worths else ZERO)]


def lengths_in(constraint):
    """Returns the tuple of the lengths of a constraint."""
    if constraint[0] == "fix":
        return constraint[2:]
    return constraint[3:] if constraint[0] in ("across", "up", "span") else ()


def rows_of(constraint, numbers):
    """Returns the list of the rows of a constraint, none for a span; raises NotThere if a number is not there."""
    word = constraint[0]
    worths = [worth_of(length, numbers) for length in lengths_in(constraint)]
    if word == "span":
        return []
    if word == "turn":
        return turn_rows(constraint[1], constraint[2], constraint[3], constraint[4])
    if word == "part":
        _, m, p, q, factor = constraint
        return [gap_row(side, (p, m), (p, q), factor) for side in (".x", ".y")]
    if word == "even":
        return [gap_row(side, constraint[1:3], constraint[3:5], ONE) for side in (".x", ".y")]
    if word in ("wide", "high"):
        return [gap_row(".x" if word == "wide" else ".y", constraint[1:3], constraint[3:5], constraint[5])]
    return length_rows(constraint, worths)


def sketch_rows(sketch, numbers):
    """Returns the list of the rows of a sketch; raises NotThere if one of its numbers is not there."""
    return [row for constraint in sketch[1] for row in rows_of(constraint, numbers)]


def spans_of(sketch, numbers):
    """Returns the list of the index, both points and the worth of each span."""
    return [(index, constraint[1], constraint[2], worth_of(constraint[3], numbers))
            for index, constraint in enumerate(sketch[1]) if constraint[0] == "span"]


def unknowns_of(points):
    """Returns the list of the unknowns of points, ascending as they do."""
    return sorted([point + side for point in points for side in (".x", ".y")])


def places_from(points, values):
    """Returns the dict from points to the pairs of their values."""
    return {point: (values[point + ".x"], values[point + ".y"]) for point in points}


def values_from(places):
    """Returns the dict from the unknowns of points to their worths in a dict of places."""
    found = {}
    for point, (x, y) in places.items():
        found[point + ".x"], found[point + ".y"] = x, y
    return found


def product_of(places, others, p, q):
    """Returns the sum of the products of both parts of the gaps from p to q in two dicts of places."""
    found = ZERO
    for axis in (0, 1):
        found = plus(found, times(minus(places[q][axis], places[p][axis]), minus(others[q][axis], others[p][axis])))
    return found


def is_true(span, places):
    """Returns True if one of spans_of is true with places."""
    _, p, q, square = span
    return product_of(places, places, p, q) == square


def on_line(shape, way, spans):
    """Returns what is told of the shapes on a line for its spans, at least one."""
    asked = []
    for index, p, q, square in spans:
        cross = product_of(shape, way, p, q)
        asked.append((index, product_of(way, way, p, q), plus(cross, cross),
                      minus(product_of(shape, shape, p, q), square)))
    for index, a, b, c in asked:
        if a == ZERO and b == ZERO and c != ZERO:
            return ("none", "span", index)
    moving = [(index, a, b, c) for index, a, b, c in asked if a != ZERO or b != ZERO]
    if not moving:
        return ("free", shape, [way])
    index, first, second, third = moving[0]
    found = [far for far in zeros(first, second, third)
             if all(plus(times(plus(times(a, far), b), far), c) == ZERO for _, a, b, c in moving)]
    if not found:
        return ("none", "roots", index)
    shapes = [{point: tuple([plus(at, times(far, step)) for at, step in zip(shape[point], way[point])])
               for point in shape} for far in found]
    return ("one", shapes[0]) if len(shapes) == 1 else ("some", shapes)


def told_by(sketch, numbers, lines):
    """Returns what is told of a sketch by the lines of an accepted frame, terms and constants by their leads."""
    points, unknowns = sketch[0], unknowns_of(sketch[0])
    plain = places_from(points, {one: lines[one][1] if one in lines else ZERO for one in unknowns})
    ways = []
    for free in [one for one in unknowns if one not in lines]:
        steps = {one: opposite(lines[one][0].get(free, ZERO)) if one in lines else ZERO for one in unknowns}
        steps[free] = ONE
        ways.append(places_from(points, steps))
    spans = spans_of(sketch, numbers)
    if not ways:
        wrong = [span[0] for span in spans if not is_true(span, plain)]
        return ("none", "span", wrong[0]) if wrong else ("one", plain)
    if not spans:
        return ("free", plain, ways)
    return ("loose", plain, ways) if len(ways) > 1 else on_line(plain, ways[0], spans)


def takes_told(sketch, numbers, told, paper):
    """Returns True if a paper is accepted with what is told of a sketch."""
    check_sketch(sketch)
    rows = sketch_rows(sketch, numbers)
    if len(told) == 3 and told[0] == "none" and told[1] == "rows":
        return paper is None and isinstance(told[2], list) and takes_clash(rows, told[2])
    if paper is None:
        return False
    lines = framed_lines(rows, paper)
    return lines is not None and told == told_by(sketch, numbers, lines)


def takes_shape(sketch, numbers, shape):
    """Returns True if a dict is a shape of a sketch."""
    check_sketch(sketch)
    rows, spans = sketch_rows(sketch, numbers), spans_of(sketch, numbers)
    if sorted(shape) != list(sketch[0]) or not takes_values(rows, values_from(shape)):
        return False
    return all(is_true(span, shape) for span in spans)


def takes_drag(sketch, numbers, shape, wishes, drag, paper):
    """Returns True if a paper for a drag of a shape to wishes is accepted."""
    check_sketch(sketch)
    if any(constraint[0] == "span" for constraint in sketch[1]):
        raise NotRight("the sketch has a span")
    if sorted(shape) != list(sketch[0]) or any(point not in shape for point in wishes):
        raise NotRight("the shape or the wishes do not tell points of the sketch")
    rows = sketch_rows(sketch, numbers)
    for point in sorted(wishes):
        rows.extend([row_of([(point + side, ONE)], at) for side, at in zip((".x", ".y"), wishes[point])])
    if sorted(drag) != list(sketch[0]) or not are_factors(rows, paper):
        return False
    before, after = values_from(shape), values_from(drag)
    made, _ = mixed(rows, paper)
    return takes_values(rows, after) and all(minus(after[one], before[one]) == made.get(one, ZERO) for one in before)
