"""Slices: the rings along the borders of flats, and the sections of a body layer by layer."""

from mitrehouse.bodies import extent
from mitrehouse.errors import NotNumber, NotRight, TooLarge
from mitrehouse.grids import check_axis
from mitrehouse.measures import check_full, section, thin_flat
from mitrehouse.outlines import ranks
from mitrehouse.ratios import is_less, minus, over, plus, ratio, sign, times, total

MOST_SLICES = 1000
HALF = (1, 2)
# The four ways along a border: each next one is the one before, turned to the left.
WAYS = ((1, 0), (0, 1), (-1, 0), (0, -1))
# For each way the cell beyond a side that is walked so, seen from the cell to the left, and where the side begins.
BEYOND = ((0, -1), (1, 0), (0, 1), (-1, 0))
STARTS = ((0, 0), (1, 0), (1, 1), (0, 1))


def added(pair, other):
    """Returns the pair of the sums of two pairs of integers."""
    return (pair[0] + other[0], pair[1] + other[1])


def border_of(cells):
    """Returns the dict from the places where sides of the border of cells begin to the lists of their ways."""
    full = {cell: True for cell in cells}
    found = {}
    for cell in cells:
        for way in range(4):
            if added(cell, BEYOND[way]) not in full:
                ways = found.setdefault(added(cell, STARTS[way]), [])
                ways.append(way)
    return found


def next_side(border, side):
    """Returns the side of a border that comes behind a side; both are pairs of a place and a way."""
    place, way = side
    end = added(place, WAYS[way])
    left = (way + 1) % 4
    return (end, left if left in border[end] else border[end][0])


def ring_sides(border, start):
    """Returns the list of the sides of the ring that begins with a side of a border."""
    found = [start]
    side = next_side(border, start)
    while side != start:
        found.append(side)
        side = next_side(border, side)
    return found


def rings_among(cells):
    """Returns the list of the rings of cells, each the list of the places at which it turns."""
    border = border_of(cells)
    walked = {}
    found = []
    # Places ascend, so that each ring is found at its least corner.
    for start in sorted([(place, way) for place, ways in border.items() for way in ways]):
        if start not in walked:
            sides = ring_sides(border, start)
            for side in sides:
                walked[side] = True
            found.append([sides[k][0] for k in range(len(sides)) if sides[k][1] != sides[k - 1][1]])
    return found


def rings_of(flat):
    """Returns the list of the rings of a flat."""
    us, vs, cells = flat
    return [[(us[i], vs[j]) for i, j in ring] for ring in rings_among(cells)]


def sides_of_ring(ring):
    """Returns the list of the pairs of neighbouring corners of a ring."""
    return [(ring[k], ring[(k + 1) % len(ring)]) for k in range(len(ring))]


def ring_area(ring):
    """Returns the area of a ring, below 0 if its turn is -1."""
    twice = total([minus(times(p[0], q[1]), times(q[0], p[1])) for p, q in sides_of_ring(ring)])
    return times(HALF, twice)


def ring_length(ring):
    """Returns the sum of the lengths of the sides of a ring, which are level or plumb."""
    steps = [minus(q[axis], p[axis]) for p, q in sides_of_ring(ring) for axis in (0, 1)]
    return total([(abs(above), below) for above, below in steps])


def plumb_crossings(sides, known, others):
    """Returns the list with the ranks along u of the plumb sides for each row between neighbouring ranks along v."""
    found = [[] for _ in range(len(others) - 1)]
    for p, q in sides:
        if p[0] == q[0]:
            low, high = sorted([others[p[1]], others[q[1]]])
            for row in range(low, high):
                found[row].append(known[p[0]])
    return [sorted(ends) for ends in found]


def flat_within(sides):
    """Returns the thin flat of the places from which one comes out over an odd number of plumb sides."""
    known, others = ranks([p[0] for p, _ in sides]), ranks([p[1] for p, _ in sides])
    cells = []
    for row, ends in enumerate(plumb_crossings(sides, known, others)):
        for low, high in zip(ends[0::2], ends[1::2]):
            cells.extend([(column, row) for column in range(low, high)])
    return thin_flat(tuple(known), tuple(others), cells)


def flat_of(rings):
    """Returns the thin flat whose rings a list of rings are."""
    found = flat_within([side for ring in rings for side in sides_of_ring(ring)])
    # Each flat has just one list of rings, in which all sides are level or plumb; so no more need be looked at.
    if rings_of(found) != [list(ring) for ring in rings]:
        raise NotRight("these are the rings of no flat")
    return found


def slice_ratios(low, high, thickness):
    """Returns the list of the ratios of the slices between two ends; raises TooLarge for too many."""
    # Of n slices the last one lies below the upper end: n is the least number of at least this many, less a half.
    above, below = minus(over(minus(high, low), thickness), HALF)
    many = max(0, -(-above // below))
    if many > MOST_SLICES:
        raise TooLarge("there would be more than 1000 slices")
    return [plus(low, times(thickness, ratio(2 * k + 1, 2))) for k in range(many)]


def slices(body, axis, thickness):
    """Returns the list of the pairs of the ratio and the section for the slices of a body along an axis."""
    check_full(body)
    check_axis(axis)
    if sign(thickness) <= 0:
        raise NotNumber("slices have a thickness above 0")
    low, high = extent(body)
    flats = {}
    found = []
    layer = 0
    for at in slice_ratios(low[axis], high[axis], thickness):
        while not is_less(at, body[axis][layer + 1]):
            layer += 1
        if layer not in flats:
            flats[layer] = section(body, axis, at)
        found.append((at, flats[layer]))
    return found
