"""Apart: how far bodies can be moved, the order in which they come apart, and what holds them together."""

from itertools import combinations

from mitrehouse.assemblies import overlaps
from mitrehouse.errors import NotRight, NotThere
from mitrehouse.grids import check_direction, columns_of, is_direction, next_axes
from mitrehouse.measures import least_of
from mitrehouse.outlines import ranks
from mitrehouse.ratios import minus, sign


def ranks_of_both(body, other):
    """Returns for each axis the dict from the cuts of two bodies to their ranks."""
    return [ranks(body[axis] + other[axis]) for axis in range(3)]


def fine_columns(body, axis, known):
    """Returns the dict from columns, by the ranks of their cuts, to the ascending indexes of a body's cells in them."""
    u, v = next_axes(axis)
    us, vs = [known[u][cut] for cut in body[u]], [known[v][cut] for cut in body[v]]
    found = {}
    for (i, j), indexes in columns_of([place for place, _ in body[3]], axis).items():
        for column in range(us[i], us[i + 1]):
            for row in range(vs[j], vs[j + 1]):
                found[column, row] = indexes
    return found


def blocked_ways(body, other, axis, known):
    """Returns the pair that tells whether a body is blocked by another one against and along an axis."""
    theirs = fine_columns(other, axis, known)
    against, along = False, False
    for column, indexes in fine_columns(body, axis, known).items():
        if column in theirs:
            low, high = body[axis][indexes[0]], body[axis][indexes[-1] + 1]
            first, last = other[axis][theirs[column][0]], other[axis][theirs[column][-1] + 1]
            against = against or known[axis][first] < known[axis][high]
            along = along or known[axis][low] < known[axis][last]
    return (against, along)


def is_blocked(body, other, direction):
    """Returns True if a body is blocked by another one in a direction."""
    check_direction(direction)
    return blocked_ways(body, other, direction // 2, ranks_of_both(body, other))[direction % 2]


def others_than(bodies, name, direction):
    """Returns the ascending list of the names of the other bodies; raises NotThere if name or direction is none."""
    if name not in bodies:
        raise NotThere("there is no body with this name")
    check_direction(direction)
    return [other for other in sorted(bodies) if other != name]


def blockers(bodies, name, direction):
    """Returns the ascending list of the names of those that block a body in a direction."""
    return [other for other in others_than(bodies, name, direction)
            if is_blocked(bodies[name], bodies[other], direction)]


def gaps_ahead(body, other, direction):
    """Returns the list of the gaps, from 0 on, from boxes of a body to boxes of another one ahead of them."""
    axis, side = direction // 2, direction % 2
    known = ranks_of_both(body, other)
    theirs = fine_columns(other, axis, known)
    facing = {(body[axis][index + side], other[axis][met + 1 - side]): True
              for column, indexes in fine_columns(body, axis, known).items() if column in theirs
              for index in indexes for met in theirs[column]}
    found = [minus(back, front) if side == 1 else minus(front, back) for front, back in facing]
    return [gap for gap in found if sign(gap) >= 0]


def room(bodies, name, direction):
    """Returns the least gap from a box of a body to one of another body ahead of it, or None if there is none."""
    return least_of([gap for other in others_than(bodies, name, direction)
                     for gap in gaps_ahead(bodies[name], bodies[other], direction)])


def blocking(bodies):
    """Returns the dict from pairs of a name and a direction to the ascending lists of the names that block it."""
    if overlaps(bodies):
        raise NotRight("two bodies overlap")
    names = sorted(bodies)
    found = {(name, direction): [] for name in names for direction in range(6)}
    for name, other in combinations(names, 2):
        known = ranks_of_both(bodies[name], bodies[other])
        for axis in range(3):
            # What blocks a body in a direction is itself blocked by it in the opposite one.
            ways = blocked_ways(bodies[name], bodies[other], axis, known)
            for side in (0, 1):
                if ways[side]:
                    found[name, 2 * axis + side].append(other)
                    found[other, 2 * axis + 1 - side].append(name)
    return found


def left_blockers(blocked, left, name, direction):
    """Returns the names that are left, a dict, of those that block a body in a direction."""
    return [other for other in blocked[name, direction] if other in left]


def next_step(blocked, left):
    """Returns the first name that can be taken away, with the least direction in which it can, or None."""
    for name in left:
        for direction in range(6):
            if not left_blockers(blocked, left, name, direction):
                return (name, direction)
    return None


def taken_apart(bodies):
    """Returns the steps in which bodies come apart, or which of them hold each other."""
    blocked = blocking(bodies)
    left = {name: True for name in sorted(bodies)}
    steps = []
    step = next_step(blocked, left)
    while step is not None:
        steps.append(step)
        del left[step[0]]
        step = next_step(blocked, left)
    if not left:
        return ("apart", steps)
    return ("held", [(name, [left_blockers(blocked, left, name, direction)[0] for direction in range(6)])
                     for name in left])


def accepts_order(bodies, steps):
    """Returns True if steps take away each body once, each where none of those that are left blocks it."""
    blocked = blocking(bodies)
    left = {name: True for name in bodies}
    for name, direction in steps:
        if name not in left or not is_direction(direction) or left_blockers(blocked, left, name, direction):
            return False
        del left[name]
    return not left


def is_held(blocked, name, names, held):
    """Returns True if a name is blocked in the six directions by these names, all of them held."""
    return len(names) == 6 and all(other in held and other in blocked[name, direction]
                                   for direction, other in enumerate(names))


def accepts_held(bodies, rows):
    """Returns True if rows show that bodies hold each other."""
    blocked = blocking(bodies)
    held = [name for name, _ in rows]
    if not rows or len(set(held)) < len(held) or not all(name in bodies for name in held):
        return False
    return all(is_held(blocked, name, names, held) for name, names in rows)
