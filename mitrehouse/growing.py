"""Growing: bodies made larger or smaller by a ratio in all directions, and how far bodies are from each other."""

from mitrehouse.bodies import EMPTY, cut, extent, thin
from mitrehouse.errors import NotNumber, TooLarge
from mitrehouse.grids import MOST_BOXES, columns_of, index_runs, many_boxes, neighbours, placed
from mitrehouse.outlines import ranks
from mitrehouse.ratios import common_below, minus, plus, ratio, sign
from mitrehouse.strokes import boxes_of

GROWN = ("grown", "")
SHRUNK = ("shrunk", "")


def check_above(by):
    """Raises NotNumber if a ratio is not above 0."""
    if sign(by) <= 0:
        raise NotNumber("a body is grown or shrunk by a ratio above 0")


def larger_ends(body, by):
    """Returns for each axis the dicts from the layers with full boxes to the ends of these, made larger by a ratio."""
    found = []
    for axis in range(3):
        cuts = body[axis]
        layers = {place[axis]: True for place, _ in body[3]}
        found.append(({at: minus(cuts[at], by) for at in layers}, {at: plus(cuts[at + 1], by) for at in layers}))
    return found


def spread(places, axis, lows, highs):
    """Returns the dict of places with each run along an axis made longer: from what lows to what highs tell."""
    found = {}
    for (u, v), indexes in columns_of(places, axis).items():
        for first, behind in index_runs(indexes):
            for at in range(lows[first], highs[behind - 1]):
                found[placed(axis, at, u, v)] = True
    return found


def with_label(full, label):
    """Returns the dict from full places to their labels, with the same one at all facets."""
    return {place: tuple([None if beyond in full else label for beyond in neighbours(place)]) for place in full}


def grown(body, by):
    """Returns the body grown by a ratio."""
    check_above(by)
    ends = larger_ends(body, by)
    known = [ranks(list(lows.values()) + list(highs.values())) for lows, highs in ends]
    if many_boxes(known) > MOST_BOXES:
        raise TooLarge("the ends of the larger boxes make more than 20000 boxes")
    # Each larger box is a product of three stretches, so that one axis can be done after the other.
    full = {place: True for place, _ in body[3]}
    for axis, (lows, highs) in enumerate(ends):
        full = spread(full, axis, {at: known[axis][low] for at, low in lows.items()},
                      {at: known[axis][high] for at, high in highs.items()})
    return thin(tuple(known[0]), tuple(known[1]), tuple(known[2]), with_label(full, GROWN))


def relabelled(body, label):
    """Returns a body all of whose facets have the same label with another one."""
    xs, ys, zs, cells = body
    return (xs, ys, zs, tuple([(place, tuple([None if one is None else label for one in labels]))
                               for place, labels in cells]))


def extent_box(body):
    """Returns the body of the one box that is the extent of a body."""
    low, high = extent(body)
    xs, ys, zs = [(low[axis], high[axis]) for axis in range(3)]
    return thin(xs, ys, zs, with_label({(0, 0, 0): True}, GROWN))


def shrunk(body, by):
    """Returns the body shrunk by a ratio."""
    check_above(by)
    if body == EMPTY:
        return EMPTY
    whole = grown(extent_box(body), by)
    rest = cut(whole, body)
    return relabelled(cut(whole, grown(rest, by)), SHRUNK)


def opened(body, by):
    """Returns the body shrunk and then grown by a ratio."""
    return grown(shrunk(body, by), by)


def whole_boxes(body, scale):
    """Returns the list of the boxes that make up a body, triples of pairs of ends, scaled to integers."""
    return [tuple([(low[0] * (scale // low[1]), high[0] * (scale // high[1])) for low, high in box])
            for box in boxes_of(body)]


def gap_between(ends, other):
    """Returns how far two pairs of ends along an axis are from each other, 0 if they meet."""
    return max(0, other[0] - ends[1], ends[0] - other[1])


def by_ends(boxes, axis):
    """Returns the dict from the pairs of ends along an axis to the lists of the boxes that have them."""
    found = {}
    for box in boxes:
        alike = found.setdefault(box[axis], [])
        alike.append(box)
    return found


def nearest(boxes, others, axis, known, best):
    """Returns the least box distance of boxes and others, if it is below best, otherwise best.

    known is their distance along the axes ahead of the axis.
    """
    if axis == 3:
        return known
    ours, theirs = by_ends(boxes, axis), by_ends(others, axis)
    for gap, ends, other in sorted([(gap_between(ends, other), ends, other) for ends in ours for other in theirs]):
        # The gaps ascend, so that none of those behind leads to less.
        if max(gap, known) >= best:
            break
        best = nearest(ours[ends], theirs[other], axis + 1, max(gap, known), best)
    return best


def box_distance(body, other):
    """Returns the box distance of two bodies; raises NotThere, as boxes_of does, if one of them is empty."""
    scale = common_below([cut_at for solid in (body, other) for axis in range(3) for cut_at in solid[axis]])
    boxes, others = whole_boxes(body, scale), whole_boxes(other, scale)
    first = max([gap_between(boxes[0][axis], others[0][axis]) for axis in range(3)])
    return ratio(nearest(boxes, others, 0, 0, first), scale)
