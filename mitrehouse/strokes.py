"""Strokes: the times at which bodies that move, each its own way, do not overlap."""

from itertools import combinations

from mitrehouse.bodies import EMPTY, unlabelled
from mitrehouse.errors import NotRight, NotThere
from mitrehouse.grids import next_axes, placed
from mitrehouse.measures import runs
from mitrehouse.outlines import ranks
from mitrehouse.ratios import ZERO, is_less, minus, over, sign

ALWAYS = (None, None)


def boxes_of(body):
    """Returns the list of boxes, triples of pairs of ends, that make up a body, as long as they can be along z."""
    plain = unlabelled(body)
    u, v = next_axes(2)
    us, vs = plain[u], plain[v]
    return [placed(2, ends, (us[i], us[i + 1]), (vs[j], vs[j + 1]))
            for (i, j), column in runs(plain, 2).items() for ends in column]


def later(one, other):
    """Returns the later one of two times, None being ahead of all."""
    if one is None or other is None:
        return other if one is None else one
    return other if is_less(one, other) else one


def earlier(one, other):
    """Returns the earlier one of two times, None being behind all."""
    if one is None or other is None:
        return other if one is None else one
    return one if is_less(one, other) else other


def meeting(ends, other, way):
    """Returns the times at which other ends, moved by so much in each time, overlap ends along an axis, or None."""
    if way == ZERO:
        return ALWAYS if is_less(ends[0], other[1]) and is_less(other[0], ends[1]) else None
    first, last = over(minus(ends[0], other[1]), way), over(minus(ends[1], other[0]), way)
    return (first, last) if sign(way) > 0 else (last, first)


def meetings(boxes, others, axis, way):
    """Returns the dict from pairs of ends of boxes along an axis to the times of their meeting, or None."""
    found = {}
    for ends in {box[axis]: True for box in boxes}:
        for other in {box[axis]: True for box in others}:
            found[ends, other] = meeting(ends, other, way)
    return found


def common_times(several):
    """Returns the times that lie within all of several pairs of ends, or None if there are none."""
    low, high = ALWAYS
    for times in several:
        if times is None:
            return None
        low, high = later(low, times[0]), earlier(high, times[1])
    # There is no bound below just if there is none above, either.
    return (low, high) if low is None or is_less(low, high) else None


def overlapping(boxes, others, way):
    """Returns the list of the stretches of times, without their ends, at which a box overlaps another one."""
    tables = [meetings(boxes, others, axis, way[axis]) for axis in range(3)]
    found = {}
    for box in boxes:
        for other in others:
            times = common_times([table[box[axis], other[axis]] for axis, table in enumerate(tables)])
            if times is not None:
                found[times] = True
    return list(found)


def overlapping_of_all(bodies, ways):
    """Returns the list of the stretches of times at which two of the bodies overlap."""
    boxes = {name: boxes_of(body) for name, body in bodies.items()}
    names = sorted(bodies)
    found = []
    for name, other in combinations(names, 2):
        way = [minus(theirs, ours) for ours, theirs in zip(ways[name], ways[other])]
        found.extend(overlapping(boxes[name], boxes[other], way))
    return found


def left_between(stretches):
    """Returns the list of the longest stretches of times, with their ends, that lie within none of a list."""
    known = ranks([one for times in stretches for one in times if one is not None])
    ends = list(known) + [None]
    endless = len(known)
    spans = sorted([(-1 if low is None else known[low], endless if high is None else known[high])
                    for low, high in stretches])
    found = []
    # All times below ends[reached] are told; the last one of ends, which is at -1, too, is no bound.
    reached = -1
    for low, high in spans:
        if low >= max(reached, 0):
            found.append((ends[reached], ends[low]))
        reached = max(reached, high)
    if reached < endless:
        found.append((ends[reached], None))
    return found


def strokes(bodies, ways):
    """Returns the list of the strokes of bodies that move their ways."""
    if sorted(bodies) != sorted(ways) or EMPTY in bodies.values():
        raise NotRight("the names differ, or a body is empty")
    return left_between(overlapping_of_all(bodies, ways))


def is_within(stroke, time):
    """Returns True if a time lies in a stroke."""
    low, high = stroke
    return (low is None or not is_less(time, low)) and (high is None or not is_less(high, time))


def are_clear(bodies, ways, time):
    """Returns True if the bodies are clear at a time."""
    return any(is_within(stroke, time) for stroke in strokes(bodies, ways))


def stroke_at(bodies, ways, time):
    """Returns the stroke with a time in it; raises NotThere if the bodies are not clear then."""
    for stroke in strokes(bodies, ways):
        if is_within(stroke, time):
            return stroke
    raise NotThere("the bodies are not clear at this time")
