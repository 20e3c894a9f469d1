"""Measures of bodies: runs and gaps, the centre, sections, and whether two bodies have the same form."""

from mitrehouse.bodies import EMPTY, extent, moved, turned, unlabelled
from mitrehouse.errors import NotThere
from mitrehouse.flats import thin_pairs
from mitrehouse.grids import check_axis, columns_of, index_runs, next_axes, whole_cuts
from mitrehouse.ratios import is_less, least, minus, ratio


def check_full(body):
    """Raises NotThere if a body is empty."""
    if body == EMPTY:
        raise NotThere("the body is empty")


def centre(body):
    """Returns the mean place of the volume of a body."""
    check_full(body)
    cuts = [whole_cuts(along) for along in body[:3]]
    (xs, _), (ys, _), (zs, _) = cuts
    boxes = [(place, (xs[place[0] + 1] - xs[place[0]]) * (ys[place[1] + 1] - ys[place[1]])
              * (zs[place[2] + 1] - zs[place[2]])) for place, _ in body[3]]
    many = sum([size for _, size in boxes])
    found = []
    for axis, (along, scale) in enumerate(cuts):
        twice = sum([size * (along[place[axis]] + along[place[axis] + 1]) for place, size in boxes])
        found.append(ratio(twice, 2 * many * scale))
    return tuple(found)


def thin_flat(us, vs, cells):
    """Returns the thin flat of cuts and a list of pairs."""
    lefts, rights, found = thin_pairs(us, vs, {cell: True for cell in cells})
    return (lefts, rights, tuple(sorted(found)))


def section(body, axis, at):
    """Returns the section of a body at a ratio along an axis."""
    check_axis(axis)
    u, v = next_axes(axis)
    layer = len([cut for cut in body[axis] if not is_less(at, cut)]) - 1
    return thin_flat(body[u], body[v], [(place[u], place[v]) for place, _ in body[3] if place[axis] == layer])


def flat_area(flat):
    """Returns the area of a flat."""
    (us, u_scale), (vs, v_scale) = whole_cuts(flat[0]), whole_cuts(flat[1])
    return ratio(sum([(us[i + 1] - us[i]) * (vs[j + 1] - vs[j]) for i, j in flat[2]]), u_scale * v_scale)


def runs(body, axis):
    """Returns the dict from the columns with full cells along an axis to the lists of the ends of their runs."""
    check_full(body)
    check_axis(axis)
    cuts = body[axis]
    columns = columns_of([place for place, _ in body[3]], axis)
    return {column: [(cuts[first], cuts[behind]) for first, behind in index_runs(indexes)]
            for column, indexes in columns.items()}


def least_of(lengths):
    """Returns the least one of a list of ratios, or None if there is none."""
    found = None
    for one in lengths:
        found = one if found is None else least(found, one)
    return found


def thinnest(body, axis):
    """Returns the least length of a run of a body along an axis."""
    return least_of([minus(high, low) for column in runs(body, axis).values() for low, high in column])


def narrowest(body, axis):
    """Returns the least length of a gap of a body along an axis, or None if there is none."""
    return least_of([minus(column[k + 1][0], column[k][1]) for column in runs(body, axis).values()
                     for k in range(len(column) - 1)])


def same_form(body, other):
    """Returns the least turns, and then the triple, that bring a body to the places of another one, or None."""
    check_full(body)
    check_full(other)
    plain, wanted = unlabelled(body), unlabelled(other)
    for turns in range(4):
        found = turned(plain, turns)
        by = tuple([minus(there, here) for there, here in zip(extent(wanted)[0], extent(found)[0])])
        if moved(found, by) == wanted:
            return (turns, by)
    return None
