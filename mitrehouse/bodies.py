"""Bodies: full boxes between cuts along three axes, with labels at their sides."""

from mitrehouse.errors import NotRight, NotThere
from mitrehouse.grids import (NO_LABELS, common_cuts, inside_out, labelled, linked_groups, neighbours, next_axes,
                              placed, refined, whole_cuts, without_needless)
from mitrehouse.ratios import is_less, is_ratio, is_whole, opposite, plus, ratio, total

EMPTY = ((), (), (), ())


def thin(xs, ys, zs, cells):
    """Returns the thin body of cuts and a dict from places to labels."""
    if not cells:
        return EMPTY
    cuts, left = without_needless((xs, ys, zs), cells)
    return (cuts[0], cuts[1], cuts[2], tuple(sorted(left.items())))


def cells_of(body):
    """Returns the dict from the places of a body's cells to their labels."""
    return {place: labels for place, labels in body[3]}


def are_cuts(value):
    """Returns True if any value is a tuple of ratios, strictly ascending by worth."""
    if not isinstance(value, tuple) or not all(is_ratio(one) for one in value):
        return False
    return all(is_less(value[k], value[k + 1]) for k in range(len(value) - 1))


def is_label(value):
    """Returns True if any value is a label: a pair of strings."""
    return isinstance(value, tuple) and len(value) == 2 and all(isinstance(part, str) for part in value)


def is_place(value, cuts):
    """Returns True if any value is the place of a cell between cuts."""
    if not isinstance(value, tuple) or len(value) != 3:
        return False
    return all(is_whole(at) and 0 <= at < len(cuts[axis]) - 1 for axis, at in enumerate(value))


def is_cell(value, cuts):
    """Returns True if any value is a pair of a place between cuts and a tuple of six labels or None."""
    if not isinstance(value, tuple) or len(value) != 2 or not is_place(value[0], cuts):
        return False
    if not isinstance(value[1], tuple) or len(value[1]) != 6:
        return False
    return all(label is None or is_label(label) for label in value[1])


def has_right_labels(cells):
    """Returns True if just those sides of the cells have labels beyond which there is no cell."""
    for place, labels in cells.items():
        if not all((beyond in cells) == (label is None) for beyond, label in zip(neighbours(place), labels)):
            return False
    return True


def is_body(value):
    """Returns True if any value is a thin body."""
    if not isinstance(value, tuple) or len(value) != 4:
        return False
    xs, ys, zs, cells = value
    if not are_cuts(xs) or not are_cuts(ys) or not are_cuts(zs) or not isinstance(cells, tuple):
        return False
    if not all(is_cell(cell, (xs, ys, zs)) for cell in cells):
        return False
    full = cells_of(value)
    return has_right_labels(full) and thin(xs, ys, zs, full) == value


def prism_labels(cell, sides, axis, name):
    """Returns the labels of the box of a cell of a region, low and high along the axis being facets."""
    labels = [None] * 6
    labels[2 * axis], labels[2 * axis + 1] = (name, "low"), (name, "high")
    u, v = next_axes(axis)
    for side, direction in enumerate([2 * u, 2 * u + 1, 2 * v, 2 * v + 1]):
        if (cell[0], cell[1], side) in sides:
            p, q = sides[cell[0], cell[1], side]
            labels[direction] = (name, f"{p}.{q}")
    return tuple(labels)


def prism(region, sides, axis, low, high, name):
    """Returns the prism of a region with the dict of its side edges, from low to high along the axis."""
    if not is_less(low, high):
        raise NotRight("the low end of a prism is less than its high end")
    us, vs, cells = region
    xs, ys, zs = placed(axis, (low, high), us, vs)
    return thin(xs, ys, zs, {placed(axis, 0, i, j): prism_labels((i, j), sides, axis, name) for i, j in cells})


def both_refined(body, other):
    """Returns the cuts of both bodies, and the dicts of the cells into which they divide them."""
    cuts = common_cuts(body, other)
    return (cuts, refined(body, cuts), refined(other, cuts))


def joined(body, other):
    """Returns the body that has the places of both full."""
    (xs, ys, zs), ours, theirs = both_refined(body, other)
    full = {place: True for cells in (ours, theirs) for place in cells}
    return thin(xs, ys, zs, labelled(full, ours, theirs))


def cut(body, other):
    """Returns the body that has those places of the first one full that are not in the other one."""
    (xs, ys, zs), ours, theirs = both_refined(body, other)
    full = {place: True for place in ours if place not in theirs}
    return thin(xs, ys, zs, labelled(full, ours, inside_out(theirs)))


def kept(body, other):
    """Returns the body that has those places full that are in both."""
    (xs, ys, zs), ours, theirs = both_refined(body, other)
    full = {place: True for place in ours if place in theirs}
    return thin(xs, ys, zs, labelled(full, ours, theirs))


def places_volume(cuts, places):
    """Returns the volume of the boxes at a list of places between cuts."""
    (xs, x_scale), (ys, y_scale), (zs, z_scale) = [whole_cuts(along) for along in cuts]
    boxes = [(xs[i + 1] - xs[i]) * (ys[j + 1] - ys[j]) * (zs[k + 1] - zs[k]) for i, j, k in places]
    return ratio(sum(boxes), x_scale * y_scale * z_scale)


def volume(body):
    """Returns the volume of a body."""
    return places_volume(body[:3], [place for place, _ in body[3]])


def facets_area(cuts, axis, places):
    """Returns the area of the sides that look along an axis of the boxes at a list of places between cuts."""
    u, v = next_axes(axis)
    (us, u_scale), (vs, v_scale) = whole_cuts(cuts[u]), whole_cuts(cuts[v])
    sides = [(us[place[u] + 1] - us[place[u]]) * (vs[place[v] + 1] - vs[place[v]]) for place in places]
    return ratio(sum(sides), u_scale * v_scale)


def facet_places(body, direction):
    """Returns the ascending list of the places of the cells that have a facet in a direction."""
    return [place for place, labels in body[3] if labels[direction] is not None]


def surface(body):
    """Returns the sum of the areas of the facets of a body."""
    return total([facets_area(body[:3], direction // 2, facet_places(body, direction)) for direction in range(6)])


def extent(body):
    """Returns the pair of the triples of the least and the greatest coordinates of a body."""
    if body == EMPTY:
        raise NotThere("the empty body has no extent")
    xs, ys, zs = body[:3]
    return ((xs[0], ys[0], zs[0]), (xs[-1], ys[-1], zs[-1]))


def pieces(body):
    """Returns the list of the bodies of the pieces, in the order of their least places."""
    cells = cells_of(body)
    xs, ys, zs = body[:3]
    return [thin(xs, ys, zs, {place: cells[place] for place in group}) for group in linked_groups(cells, neighbours)]


def moved(body, by):
    """Returns the body moved by a triple of ratios."""
    xs, ys, zs = [tuple([plus(one, by[axis]) for one in body[axis]]) for axis in range(3)]
    return (xs, ys, zs, body[3])


def turned_once(body):
    """Returns the body turned once about the z axis."""
    xs, ys, zs, cells = body
    # The direction x becomes y, and y becomes -x; so what looked along -x looks along -y then.
    found = {(len(ys) - 2 - j, i, k): (labels[3], labels[2], labels[0], labels[1], labels[4], labels[5])
             for (i, j, k), labels in cells}
    return (tuple([opposite(one) for one in ys[::-1]]), xs, zs, tuple(sorted(found.items())))


def turned(body, turns):
    """Returns the body turned so many times about the z axis."""
    for _ in range(turns % 4):
        body = turned_once(body)
    return body


def layers_at(cuts, at):
    """Returns the list of the layers that have a ratio within or at a side; those beyond the cuts count, too."""
    below = len([one for one in cuts if is_less(one, at)])
    return list(range(below - 1, below + 1 if at in cuts else below))


def holds(body, spot):
    """Returns True if a triple of ratios lies in a full box, or between full boxes alone."""
    full = cells_of(body)
    xs, ys, zs = [layers_at(body[axis], spot[axis]) for axis in range(3)]
    return all((i, j, k) in full for i in xs for j in ys for k in zs)


def common(body, other):
    """Returns the volume that both bodies have in common."""
    cuts, ours, theirs = both_refined(body, other)
    return places_volume(cuts, [place for place in ours if place in theirs])


def unlabelled(body):
    """Returns the fewest cuts, and the cells without labels, that have the places of a body full."""
    xs, ys, zs, cells = body
    return thin(xs, ys, zs, {place: NO_LABELS for place, _ in cells})


def same_places(body, other):
    """Returns True if both bodies have the same places full, whatever their labels are."""
    return unlabelled(body) == unlabelled(other)
