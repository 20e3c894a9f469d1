"""Square outlines: rings of points whose edges are level or plumb, and the region inside."""

from mitrehouse.errors import NotRight
from mitrehouse.ratios import ascending, is_less, minus, times, total

FEWEST_CORNERS = 4
LEFT = 0
RIGHT = 1
BELOW = 2
ABOVE = 3


def edges_of(rings):
    """Returns the list of the edges, rings and corners in order."""
    return [(ring[k], ring[(k + 1) % len(ring)]) for ring in rings for k in range(len(ring))]


def few_fault(rings):
    """Returns the fault of the first ring with fewer than 4 corners, or None."""
    for index, ring in enumerate(rings):
        if len(ring) < FEWEST_CORNERS:
            return ("few", index)
    return None


def point_fault(places, corners):
    """Returns the fault of the first corner that has no place, or None."""
    for corner in corners:
        if corner not in places:
            return ("point", corner)
    return None


def twice_fault(corners):
    """Returns the fault of the first corner that stood before, or None."""
    seen = {}
    for corner in corners:
        if corner in seen:
            return ("twice", corner)
        seen[corner] = True
    return None


def slant_fault(places, edges):
    """Returns the fault of the first edge that is neither level nor plumb, or None."""
    for p, q in edges:
        if (places[p][0] == places[q][0]) == (places[p][1] == places[q][1]):
            return ("slant", p, q)
    return None


def ranks(ratios):
    """Returns the dict from the different ratios of a list to their indexes, ascending by worth."""
    return {one: index for index, one in enumerate(ascending(ratios))}


def boxes_of(places, edges):
    """Returns for each edge its least and greatest x and y, told by their ranks among all corners."""
    x_ranks = ranks([places[p][0] for p, _ in edges])
    y_ranks = ranks([places[p][1] for p, _ in edges])
    found = []
    for p, q in edges:
        left, right = sorted([x_ranks[places[p][0]], x_ranks[places[q][0]]])
        low, high = sorted([y_ranks[places[p][1]], y_ranks[places[q][1]]])
        found.append((left, right, low, high))
    return found


def meet_wrongly(edge, other, box, other_box):
    """Returns True if two edges have a common point, but not just a corner of which they are the neighbours."""
    left, right = max(box[0], other_box[0]), min(box[1], other_box[1])
    low, high = max(box[2], other_box[2]), min(box[3], other_box[3])
    if left > right or low > high:
        return False
    # No corner stands twice, so a common name is the corner of which both are the neighbours.
    return not (left == right and low == high and (edge[1] == other[0] or edge[0] == other[1]))


def meet_fault(places, edges):
    """Returns the fault of the first two edges that meet, or None."""
    boxes = boxes_of(places, edges)
    for k in range(len(edges)):
        for n in range(k + 1, len(edges)):
            if meet_wrongly(edges[k], edges[n], boxes[k], boxes[n]):
                return ("meet", edges[k][0], edges[k][1], edges[n][0], edges[n][1])
    return None


def fault(places, rings):
    """Returns the fault of rings for places, or None."""
    corners = [corner for ring in rings for corner in ring]
    edges = edges_of(rings)
    return (few_fault(rings) or point_fault(places, corners) or twice_fault(corners)
            or slant_fault(places, edges) or meet_fault(places, edges))


def check_outline(places, rings):
    """Raises NotRight if the rings have a fault."""
    if fault(places, rings) is not None:
        raise NotRight("the rings are no outline")


def crossings(boxes, rows):
    """Returns for each of so many rows between neighbouring y the ascending ranks of the plumb edges in it."""
    found = [[] for _ in range(rows)]
    for left, right, low, high in boxes:
        if left == right:
            for row in range(low, high):
                found[row].append(left)
    return [sorted(ends) for ends in found]


def inside_cells(boxes, rows):
    """Returns the ascending tuple of the cells inside the edges with the boxes."""
    found = []
    for row, ends in enumerate(crossings(boxes, rows)):
        # From left to right, every edge leads from outside to inside, or back.
        for k in range(0, len(ends), 2):
            found.extend([(column, row) for column in range(ends[k], ends[k + 1])])
    return tuple(sorted(found))


def corner_cuts(places, edges):
    """Returns the tuples of the different x and of the different y of the corners."""
    xs = tuple(ascending([places[p][0] for p, _ in edges]))
    return (xs, tuple(ascending([places[p][1] for p, _ in edges])))


def region_within(places, edges):
    """Returns the region of edges without a fault."""
    xs, ys = corner_cuts(places, edges)
    return (xs, ys, inside_cells(boxes_of(places, edges), len(ys) - 1))


def region(places, rings):
    """Returns the region of an outline."""
    check_outline(places, rings)
    return region_within(places, edges_of(rings))


def sides_of_edge(box, cells):
    """Returns the sides of cells of the region that lie on the edge with the box."""
    left, right, low, high = box
    if left == right:
        return [(left, row, LEFT) if (left, row) in cells else (left - 1, row, RIGHT) for row in range(low, high)]
    return [(column, low, BELOW) if (column, low) in cells else (column, low - 1, ABOVE)
            for column in range(left, right)]


def side_edges(places, rings):
    """Returns the dict from the sides of cells that lie on edges to these edges."""
    check_outline(places, rings)
    edges = edges_of(rings)
    cells = {cell: True for cell in region_within(places, edges)[2]}
    found = {}
    for edge, box in zip(edges, boxes_of(places, edges)):
        for side in sides_of_edge(box, cells):
            found[side] = edge
    return found


def steps(cuts):
    """Returns the list of the lengths between neighbouring cuts."""
    return [minus(cuts[k + 1], cuts[k]) for k in range(len(cuts) - 1)]


def area(places, rings):
    """Returns the area of an outline."""
    xs, ys, cells = region(places, rings)
    widths, heights = steps(xs), steps(ys)
    rows = [[] for _ in heights]
    for i, j in cells:
        rows[j].append(widths[i])
    return total([times(heights[j], total(row)) for j, row in enumerate(rows)])


def is_between(at, one, other):
    """Returns True if a ratio lies from one of two ratios to the other one, both included."""
    return at in (one, other) or is_less(at, one) != is_less(at, other)


def is_on(places, edge, place):
    """Returns True if a place is on an edge that is level or plumb."""
    p, q = places[edge[0]], places[edge[1]]
    return is_between(place[0], p[0], q[0]) and is_between(place[1], p[1], q[1])


def is_met(places, edge, place):
    """Returns True if the level line from a place to the right meets a plumb edge, but not at its upper end."""
    p, q = places[edge[0]], places[edge[1]]
    # Of both ends of an edge that is met just one lies above the line; those of a level edge lie alike.
    return is_less(place[0], p[0]) and is_less(place[1], p[1]) != is_less(place[1], q[1])


def is_inside(places, rings, place):
    """Returns True if a place is inside an outline."""
    check_outline(places, rings)
    edges = edges_of(rings)
    if any(is_on(places, edge, place) for edge in edges):
        return False
    met = [edge for edge in edges if is_met(places, edge, place)]
    return len(met) % 2 == 1
