"""Standing: whether a body stands, tips or falls by its foot, and the papers that show it."""

from mitrehouse.measures import centre, check_full
from mitrehouse.outlines import ranks
from mitrehouse.ratios import ONE, ZERO, is_less, is_ratio, minus, over, plus, sign, times, total

WORDS = ("falls", "tips", "stands")


def foot(body):
    """Returns the list of the different corners of the foot of a body, ascending by x, then by y."""
    check_full(body)
    xs, ys = body[:2]
    # All cells of the lowest layer have a facet that looks down, at the least z.
    corners = sorted({(i + one, j + other) for (i, j, k), _ in body[3] if k == 0 for one in (0, 1) for other in (0, 1)})
    return [(xs[i], ys[j]) for i, j in corners]


def crossed(p, q, r):
    """Returns twice the area of the triangle of three corners, below 0 if they stand clockwise."""
    return minus(times(minus(q[0], p[0]), minus(r[1], p[1])), times(minus(q[1], p[1]), minus(r[0], p[0])))


def by_worth(corners):
    """Returns the list of corners, ascending by x, then by y, by worth."""
    xs, ys = ranks([x for x, _ in corners]), ranks([y for _, y in corners])
    return sorted(corners, key=lambda corner: (xs[corner[0]], ys[corner[1]]))


def chained(corners):
    """Returns the list of those of ascending corners between which the line always turns to the left."""
    found = []
    for corner in corners:
        while len(found) > 1 and sign(crossed(found[-2], found[-1], corner)) <= 0:
            found.pop()
        found.append(corner)
    return found


def hull(corners):
    """Returns the hull of a list of different corners, counterclockwise from the least one."""
    ordered = by_worth(corners)
    if len(ordered) == 1:
        return ordered
    return chained(ordered)[:-1] + chained(ordered[::-1])[:-1]


def sides_of(corners, spot):
    """Returns for each side of a hull, the last one first, 1, 0 or -1 for a spot within, on its line or beyond."""
    return [sign(crossed(corners[k - 1], corners[k], spot)) for k in range(len(corners))]


def spot_of(body):
    """Returns the centre of a body, seen from above."""
    x, y, _ = centre(body)
    return (x, y)


def stands(body):
    """Returns whether a body stands, tips or falls, as a word."""
    worst = min(sides_of(hull(foot(body)), spot_of(body)))
    return WORDS[worst + 1]


def weights_within(corners, spot):
    """Returns a paper that a spot does not lie beyond a hull: weights of three of its corners."""
    first = corners[0]
    for k in range(1, len(corners) - 1):
        p, q = corners[k], corners[k + 1]
        parts = [crossed(p, q, spot), crossed(q, first, spot), crossed(first, p, spot)]
        if all(sign(part) >= 0 for part in parts):
            whole = crossed(first, p, q)
            return [(corner, over(part, whole)) for corner, part in zip((first, p, q), parts)]
    return []


def line_value(line, spot):
    """Returns the sum of a and b of a line times the coordinates of a spot."""
    return plus(times(line[0], spot[0]), times(line[1], spot[1]))


def line_along(p, q):
    """Returns the line through two neighbouring corners of a hull, beyond which nothing of it lies."""
    turned_out = (minus(q[1], p[1]), minus(p[0], q[0]))
    return (turned_out[0], turned_out[1], line_value(turned_out, p))


def standing_paper(body):
    """Returns a paper that shows whether a body stands, tips or falls."""
    corners, spot = hull(foot(body)), spot_of(body)
    sides = sides_of(corners, spot)
    worst = min(sides)
    at = sides.index(worst)
    line = line_along(corners[at - 1], corners[at])
    if worst < 0:
        return ("falls", line)
    weights = weights_within(corners, spot)
    return ("held", weights) if worst > 0 else ("edge", weights, line)


def shows_no_fall(corners, spot, weights):
    """Returns True if weights are a paper that a body with a foot and a centre does not fall."""
    if not isinstance(weights, list) or not all(corner in corners and sign(weight) >= 0 for corner, weight in weights):
        return False
    if total([weight for _, weight in weights]) != ONE:
        return False
    return all(total([times(weight, corner[axis]) for corner, weight in weights]) == spot[axis] for axis in (0, 1))


def is_beside(corners, line):
    """Returns True if a triple of ratios is a line, and no corner lies beyond it."""
    if not isinstance(line, tuple) or len(line) != 3 or not all(is_ratio(one) for one in line):
        return False
    a, b, c = line
    return (a != ZERO or b != ZERO) and not any(is_less(c, line_value(line, corner)) for corner in corners)


def accepts_standing(body, paper):
    """Returns True if a paper shows that a body stands, tips or falls, as its word says."""
    corners, spot = foot(body), spot_of(body)
    if paper[0] == "held" and len(paper) == 2:
        return shows_no_fall(corners, spot, paper[1])
    if paper[0] == "edge" and len(paper) == 3:
        line = paper[2]
        if not is_beside(corners, line) or is_less(line_value(line, spot), line[2]):
            return False
        return shows_no_fall(corners, spot, paper[1])
    if paper[0] == "falls" and len(paper) == 2:
        line = paper[1]
        return is_beside(corners, line) and is_less(line[2], line_value(line, spot))
    return False
