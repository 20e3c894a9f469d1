"""Stacks: bodies that come to lie one on the other, and whether they stay."""

from mitrehouse.bodies import moved, volume
from mitrehouse.grids import fine_columns
from mitrehouse.measures import centre, check_full
from mitrehouse.outlines import ranks
from mitrehouse.ratios import ZERO, common_below, greatest, over, plus, ratio, times
from mitrehouse.standing import hull, sides_of


def check_all(bodies):
    """Raises NotThere if one of a list of bodies is empty."""
    for body in bodies:
        check_full(body)


def ranks_of_all(bodies):
    """Returns for each axis the dict from the cuts of all bodies to their ranks."""
    return [ranks([one for body in bodies for one in body[axis]]) for axis in range(3)]


def column_ends(body, known, scale):
    """Returns the dict from columns along z to the lowest and the highest z of the body there, scaled to integers."""
    zs = [one[0] * (scale // one[1]) for one in body[2]]
    return {column: (zs[indexes[0]], zs[indexes[-1] + 1])
            for column, indexes in fine_columns(body, 2, known).items()}


def heights(bodies):
    """Returns the list of the ratios by which bodies are moved up when they are stacked."""
    check_all(bodies)
    known = ranks_of_all(bodies)
    scale = common_below([one for body in bodies for one in body[2]])
    tops = {}
    found = []
    for body in bodies:
        ends = column_ends(body, known, scale)
        up = max([-low for low, _ in ends.values()]
                 + [tops[column] - low for column, (low, _) in ends.items() if column in tops])
        for column, (_, high) in ends.items():
            tops[column] = high + up
        found.append(ratio(up, scale))
    return found


def stacked(bodies):
    """Returns the list of the moved bodies of a stack."""
    return [moved(body, (ZERO, ZERO, up)) for body, up in zip(bodies, heights(bodies))]


def top_of(bodies):
    """Returns the greatest z of a stack, 0 for no bodies."""
    found = ZERO
    for body in stacked(bodies):
        found = greatest(found, body[2][-1])
    return found


def level_facets(body, direction, known):
    """Returns the dict from planes to the lists of the facets there that look down or up.

    A facet is told by its ends along x and y, as ranks.
    """
    xs, ys = [known[0][one] for one in body[0]], [known[1][one] for one in body[1]]
    found = {}
    for (i, j, k), labels in body[3]:
        if labels[direction] is not None:
            facets = found.setdefault(body[2][k + direction % 2], [])
            facets.append((xs[i], xs[i + 1], ys[j], ys[j + 1]))
    return found


def common_part(facet, other):
    """Returns the rectangle that two facets have in common, or None if it has no area."""
    left, right = max(facet[0], other[0]), min(facet[1], other[1])
    low, high = max(facet[2], other[2]), min(facet[3], other[3])
    return (left, right, low, high) if left < right and low < high else None


def rests_of(body, others, known):
    """Returns the list of the rectangles on which a body rests on others or on the ground."""
    downward = level_facets(body, 4, known)
    found = list(downward.get(ZERO, []))
    for other in others:
        upward = level_facets(other, 5, known)
        parts = [common_part(facet, met) for plane, facets in downward.items() for facet in facets
                 for met in upward.get(plane, [])]
        found.extend([part for part in parts if part is not None])
    return found


def rest_corners(body, others):
    """Returns the different corners of the rectangles on which a body rests on others or on the ground."""
    check_all([body] + list(others))
    known = ranks_of_all([body] + list(others))
    xs, ys = list(known[0]), list(known[1])
    corners = sorted({(x, y) for left, right, low, high in rests_of(body, others, known)
                      for x in (left, right) for y in (low, high)})
    return [(xs[x], ys[y]) for x, y in corners]


def centres_from_end(bodies):
    """Returns for each index the centre, seen from above, of the bodies from there on to the end."""
    weight, sums = ZERO, (ZERO, ZERO)
    found = []
    for body in bodies[::-1]:
        size, (x, y, _) = volume(body), centre(body)
        weight = plus(weight, size)
        sums = (plus(sums[0], times(size, x)), plus(sums[1], times(size, y)))
        found.append((over(sums[0], weight), over(sums[1], weight)))
    return found[::-1]


def first_fall(bodies):
    """Returns the greatest number of bodies from the end of a stack that fall, or None if it holds."""
    lying = stacked(bodies)
    centres = centres_from_end(lying)
    resting = [[rest_corners(body, [below]) for below in lying[:at]] for at, body in enumerate(lying)]
    grounded = [rest_corners(body, []) for body in lying]
    for start, spot in enumerate(centres):
        # Those from the start on rest on the ground, and on what lies below the start.
        known = {corner: True for at in range(start, len(lying))
                 for corners in [grounded[at]] + resting[at][:start] for corner in corners}
        if min(sides_of(hull(list(known)), spot)) < 0:
            return len(lying) - start
    return None


def holds_up(bodies):
    """Returns True if a stack holds."""
    return first_fall(bodies) is None
