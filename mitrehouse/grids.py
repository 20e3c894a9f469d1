"""Cells between cuts: their neighbours, their layers, and finer cuts through several bodies."""

from mitrehouse.errors import NotThere, TooLarge
from mitrehouse.ratios import ascending, common_below, is_whole

MOST_BOXES = 20000
NO_LABELS = (None, None, None, None, None, None)


def check_axis(axis):
    """Raises NotThere if there is no such axis."""
    if not is_whole(axis) or not 0 <= axis <= 2:
        raise NotThere("there is no such axis")


def is_direction(value):
    """Returns True if any value is a direction."""
    return is_whole(value) and 0 <= value <= 5


def check_direction(direction):
    """Raises NotThere if there is no such direction."""
    if not is_direction(direction):
        raise NotThere("there is no such direction")


def next_axes(axis):
    """Returns the two next axes behind an axis, in the order x, y, z, x, y."""
    return ((axis + 1) % 3, (axis + 2) % 3)


def neighbours(place):
    """Returns the places beside a place, in the order of the directions."""
    i, j, k = place
    return [(i - 1, j, k), (i + 1, j, k), (i, j - 1, k), (i, j + 1, k), (i, j, k - 1), (i, j, k + 1)]


def placed(axis, at, u, v):
    """Returns the triple that has at along an axis, and u and v along the two next ones."""
    if axis == 0:
        return (at, u, v)
    return (v, at, u) if axis == 1 else (u, v, at)


def index_runs(indexes):
    """Returns the list of the runs of neighbours in an ascending list of indexes: the first one, and one behind."""
    found = []
    for index in indexes:
        if found and found[-1][1] == index:
            found[-1] = (found[-1][0], index + 1)
        else:
            found.append((index, index + 1))
    return found


def columns_of(cells, axis):
    """Returns the dict from the columns along an axis to the ascending lists of the indexes of its cells."""
    u, v = next_axes(axis)
    found = {}
    for place in sorted(cells):
        column = found.setdefault((place[u], place[v]), [])
        column.append(place[axis])
    return found


def fine_columns(body, axis, known):
    """Returns the dict from columns, by the ranks of their cuts, to the ascending indexes of a body's cells in them."""
    u, v = next_axes(axis)
    us, vs = [known[u][cut] for cut in body[u]], [known[v][cut] for cut in body[v]]
    found = {}
    for (i, j), indexes in columns_of([place for place, _ in body[3]], axis).items():
        for column in range(us[i], us[i + 1]):
            for row in range(vs[j], vs[j + 1]):
                found[column, row] = indexes
    return found


def whole_cuts(cuts):
    """Returns integers that are as far from each other as cuts, and how many of them make 1."""
    scale = common_below(cuts)
    return ([one[0] * (scale // one[1]) for one in cuts], scale)


def layers_of(cells, axis):
    """Returns the dict from the indexes along an axis to the cells there, with the labels of the other axes."""
    u, v = next_axes(axis)
    found = {}
    for place, labels in cells.items():
        layer = found.setdefault(place[axis], {})
        layer[place[u], place[v]] = labels[:2 * axis] + labels[2 * axis + 2:]
    return found


def needed_cuts(layers):
    """Returns the ascending list of the indexes of the cuts between layers that differ."""
    first, last = min(layers), max(layers)
    inner = [at for at in range(first + 1, last + 1) if layers.get(at - 1, {}) != layers.get(at, {})]
    return [first] + inner + [last + 1]


def merged_cells(cells, axis, needed):
    """Returns the dict of the cells when only the needed cuts of an axis are left."""
    u, v = next_axes(axis)
    starts = {needed[k]: k for k in range(len(needed) - 1)}
    found = {}
    for place, labels in cells.items():
        if place[axis] in starts:
            index = starts[place[axis]]
            last = placed(axis, needed[index + 1] - 1, place[u], place[v])
            kept = labels[:2 * axis + 1] + (cells[last][2 * axis + 1],) + labels[2 * axis + 2:]
            found[placed(axis, index, place[u], place[v])] = kept
    return found


def without_needless(cuts, cells):
    """Returns the list of the cuts of the three axes, and the dict of the cells, without needless cuts."""
    left = []
    for axis in range(3):
        needed = needed_cuts(layers_of(cells, axis))
        left.append(tuple([cuts[axis][at] for at in needed]))
        if len(needed) < len(cuts[axis]):
            cells = merged_cells(cells, axis, needed)
    return (left, cells)


def many_boxes(cuts):
    """Returns how many boxes there are between the cuts of the three axes."""
    return (len(cuts[0]) - 1) * (len(cuts[1]) - 1) * (len(cuts[2]) - 1)


def cuts_of_both(body, other):
    """Returns the list of the cuts of both bodies along the three axes."""
    return [ascending(body[axis] + other[axis]) for axis in range(3)]


def common_cuts(body, other):
    """Returns the list of the cuts of both bodies along the three axes; raises TooLarge for too many boxes."""
    found = cuts_of_both(body, other)
    if many_boxes(found) > MOST_BOXES:
        raise TooLarge("the cuts of both bodies make more than 20000 boxes")
    return found


def cut_places(body, cuts):
    """Returns for each axis the list of the indexes at which the cuts of a body stand among more cuts."""
    found = []
    for axis in range(3):
        indexes = {one: index for index, one in enumerate(cuts[axis])}
        found.append([indexes[one] for one in body[axis]])
    return found


def refined(body, cuts):
    """Returns the dict of the cells, with their labels, into which more cuts divide the cells of a body."""
    xs, ys, zs = cut_places(body, cuts)
    found = {}
    for (i, j, k), labels in body[3]:
        for x in range(xs[i], xs[i + 1]):
            for y in range(ys[j], ys[j + 1]):
                for z in range(zs[k], zs[k + 1]):
                    ends = (x == xs[i], x == xs[i + 1] - 1, y == ys[j], y == ys[j + 1] - 1,
                            z == zs[k], z == zs[k + 1] - 1)
                    found[x, y, z] = tuple([label if end else None for label, end in zip(labels, ends)])
    return found


def inside_out(cells):
    """Returns the labels of the sides of cells, told for the places beyond them, looking the other way."""
    found = {}
    for place, labels in cells.items():
        for direction, beyond in enumerate(neighbours(place)):
            if labels[direction] is not None:
                known = found.setdefault(beyond, list(NO_LABELS))
                known[direction ^ 1] = labels[direction]
    return found


def labelled(full, ours, theirs):
    """Returns the dict of the full places with their labels: those of ours go ahead of those of theirs."""
    cells = {}
    for place in full:
        first, second = ours.get(place, NO_LABELS), theirs.get(place, NO_LABELS)
        cells[place] = tuple([None if beyond in full else first[direction] or second[direction]
                              for direction, beyond in enumerate(neighbours(place))])
    return cells


def beside_x(place):
    """Returns the four places beside a place across the x axis."""
    i, j, k = place
    return [(i, j - 1, k), (i, j + 1, k), (i, j, k - 1), (i, j, k + 1)]


def beside_y(place):
    """Returns the four places beside a place across the y axis."""
    i, j, k = place
    return [(i - 1, j, k), (i + 1, j, k), (i, j, k - 1), (i, j, k + 1)]


def beside_z(place):
    """Returns the four places beside a place across the z axis."""
    i, j, k = place
    return [(i - 1, j, k), (i + 1, j, k), (i, j - 1, k), (i, j + 1, k)]


BESIDE = (beside_x, beside_y, beside_z)


def linked_groups(places, near):
    """Returns the lists of those places of a dict that lead to each other over near ones, in the dict's order.

    near is a function that returns the list of the places near a place.
    """
    found = []
    left = {place: True for place in places}
    for place in places:
        if place in left:
            del left[place]
            group = [place]
            # The group grows while it is gone through, by an index instead of a loop over it.
            at = 0
            while at < len(group):
                fresh = [other for other in near(group[at]) if other in left]
                for other in fresh:
                    del left[other]
                group.extend(fresh)
                at += 1
            found.append(group)
    return found
