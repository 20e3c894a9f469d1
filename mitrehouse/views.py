"""Views: what is seen of a body from a direction, and the lines in which it is drawn."""

from mitrehouse.bodies import cells_of, facets_area
from mitrehouse.faces import faces
from mitrehouse.flats import thin_pairs
from mitrehouse.grids import check_direction, columns_of, index_runs, next_axes, placed
from mitrehouse.measures import check_full
from mitrehouse.ratios import minus, over, total


def seen_places(body, direction):
    """Returns the dict from the places that are seen from a direction to their labels there."""
    labels = cells_of(body)
    axis = direction // 2
    found = {}
    for (i, j), indexes in columns_of(labels, axis).items():
        place = placed(axis, indexes[-1] if direction % 2 == 1 else indexes[0], i, j)
        found[place] = labels[place][direction]
    return found


def view(body, direction):
    """Returns the view of a body from a direction."""
    check_full(body)
    check_direction(direction)
    axis = direction // 2
    u, v = next_axes(axis)
    seen = {(place[u], place[v]): (body[axis][place[axis] + direction % 2], label)
            for place, label in seen_places(body, direction).items()}
    us, vs, cells = thin_pairs(body[u], body[v], seen)
    return (us, vs, tuple([(cell, cells[cell][0], cells[cell][1]) for cell in sorted(cells)]))


def lines_along(word, cuts, others, cells):
    """Returns the list of the lines along an axis with these cuts, at those of the other axis.

    cells is the dict from pairs, the index along the axis first, to what is told of the cells.
    """
    found = []
    for at in range(len(others)):
        sides = [k for k in range(len(cuts) - 1) if cells.get((k, at - 1)) != cells.get((k, at))]
        found.extend([(word, others[at], cuts[first], cuts[behind]) for first, behind in index_runs(sides)])
    return found


def view_lines(seen):
    """Returns the list of the lines of a view, those along u first."""
    us, vs, told = seen
    cells = {cell: (plane, label) for cell, plane, label in told}
    exchanged = {(j, i): facet for (i, j), facet in cells.items()}
    return lines_along("u", us, vs, cells) + lines_along("v", vs, us, exchanged)


def line_length(lines):
    """Returns the sum of the lengths of a list of lines."""
    return total([minus(high, low) for _, _, low, high in lines])


def seen_part(body, face, seen):
    """Returns the area of a face at the places of a dict that are seen, divided by its area."""
    _, direction, places = face
    area = facets_area(body[:3], direction // 2, places)
    return over(facets_area(body[:3], direction // 2, [place for place in places if place in seen]), area)


def seen_parts(body):
    """Returns the list of the parts of the faces of a body that are seen from their directions."""
    seen = [seen_places(body, direction) for direction in range(6)]
    return [seen_part(body, face, seen[face[1]]) for face in faces(body)]
