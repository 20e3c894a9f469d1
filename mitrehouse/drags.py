"""Drags: the shape nearest to a told one that fulfils a sketch, with some points where they are wished."""

from mitrehouse.basis import plain_basis
from mitrehouse.errors import NotRight, NotThere
from mitrehouse.linear import fulfils, made, make_row, solution, worth
from mitrehouse.ratios import ONE, ZERO, minus, plus, times, total
from mitrehouse.settling import shape_from
from mitrehouse.sketches import dot, is_linear, is_sketch, sketch_rows, values_of


def wish_rows(wishes):
    """Returns the list of the rows of wishes, a dict from points to places."""
    found = []
    for point in sorted(wishes):
        x, y = wishes[point]
        found.extend([make_row([(point + ".x", ONE)], x), make_row([(point + ".y", ONE)], y)])
    return found


def checked_rows(sketch, numbers, shape, wishes):
    """Returns the list of the rows of a sketch and of wishes; raises the errors of wrong ones."""
    if not is_sketch(sketch) or not all(is_linear(constraint) for constraint in sketch[1]):
        raise NotRight("it is no sketch, or has a span")
    if sorted(shape) != list(sketch[0]) or not all(point in sketch[0] for point in wishes):
        raise NotRight("the shape or the wishes do not tell points of the sketch")
    return sketch_rows(sketch, numbers) + wish_rows(wishes)


def row_dot(row, other):
    """Returns the sum of the products of the ratios that two rows have for the same unknowns."""
    ratios = dict(other[0])
    return total([times(one, ratios[unknown]) for unknown, one in row[0] if unknown in ratios])


def drag_factors(rows, values):
    """Returns the factors of a row that, added to values, leads to the nearest ones that fulfil the rows."""
    names = [str(index) for index in range(len(rows))]
    asked = []
    for row in rows:
        terms = [(name, row_dot(row, other)) for name, other in zip(names, rows)]
        asked.append(make_row(terms, minus(row[1], worth(row, values))))
    # These rows clash just if those do; where some follow from others, any factors for them will do.
    basis = plain_basis(asked)
    if basis.clash is not None:
        raise NotThere("no shape fulfils the sketch and the wishes")
    found = solution(basis.reduced(), names)[1]
    return [found[name] for name in names]


def steps_by(rows, factors, unknowns):
    """Returns the dict from unknowns to their ratios in the row that factors make, 0 where they do not stand."""
    terms = dict(made(rows, factors)[0])
    return {unknown: terms.get(unknown, ZERO) for unknown in unknowns}


def dragged(sketch, numbers, shape, wishes):
    """Returns the drag of a shape to wishes."""
    rows = checked_rows(sketch, numbers, shape, wishes)
    values = values_of(shape)
    steps = steps_by(rows, drag_factors(rows, values), values)
    return shape_from(sketch, {unknown: plus(values[unknown], steps[unknown]) for unknown in values})


def drag_paper(sketch, numbers, shape, wishes):
    """Returns an accepted paper for the drag of a shape to wishes."""
    rows = checked_rows(sketch, numbers, shape, wishes)
    return drag_factors(rows, values_of(shape))


def accepts_drag(sketch, numbers, shape, wishes, drag, paper):
    """Returns True if a paper is accepted for a drag of a shape to wishes."""
    rows = checked_rows(sketch, numbers, shape, wishes)
    if sorted(drag) != list(sketch[0]) or len(paper) != len(rows):
        return False
    before, after = values_of(shape), values_of(drag)
    if not fulfils(rows, after):
        return False
    steps = steps_by(rows, paper, before)
    return all(minus(after[unknown], before[unknown]) == steps[unknown] for unknown in before)


def moved_far(shape, other):
    """Returns the sum of the squares of the differences of the coordinates of two shapes with the same points."""
    gaps = [(minus(x, other[point][0]), minus(y, other[point][1])) for point, (x, y) in shape.items()]
    return total([dot(gap, gap) for gap in gaps])
