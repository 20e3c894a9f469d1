"""Apart: how far bodies can be moved, the order in which they come apart, and what holds them together."""

from itertools import combinations

from mitrehouse.errors import NotRight, NotThere, TooLarge
from mitrehouse.grids import (MOST_BOXES, check_direction, cuts_of_both, fine_columns, index_runs, is_direction,
                              many_boxes)
from mitrehouse.measures import least_of
from mitrehouse.outlines import ranks
from mitrehouse.ratios import minus, sign

MOST_KEPT = 8
CROWDS = None


def ranks_of_both(body, other):
    """Returns for each axis the dict from the cuts of two bodies to their ranks."""
    return [ranks(body[axis] + other[axis]) for axis in range(3)]


def blocked_ways(body, other, axis, known):
    """Returns the pair that tells whether a body is blocked by another one against and along an axis."""
    theirs = fine_columns(other, axis, known)
    against, along = False, False
    for column, indexes in fine_columns(body, axis, known).items():
        if column in theirs:
            low, high = body[axis][indexes[0]], body[axis][indexes[-1] + 1]
            first, last = other[axis][theirs[column][0]], other[axis][theirs[column][-1] + 1]
            against = against or known[axis][first] < known[axis][high]
            along = along or known[axis][low] < known[axis][last]
    return (against, along)


def is_blocked(body, other, direction):
    """Returns True if a body is blocked by another one in a direction."""
    check_direction(direction)
    return blocked_ways(body, other, direction // 2, ranks_of_both(body, other))[direction % 2]


def others_than(bodies, name, direction):
    """Returns the ascending list of the names of the other bodies; raises NotThere if name or direction is none."""
    if name not in bodies:
        raise NotThere("there is no body with this name")
    check_direction(direction)
    return [other for other in sorted(bodies) if other != name]


def blockers(bodies, name, direction):
    """Returns the ascending list of the names of those that block a body in a direction."""
    return [other for other in others_than(bodies, name, direction)
            if is_blocked(bodies[name], bodies[other], direction)]


def gaps_ahead(body, other, direction):
    """Returns the list of the gaps, from 0 on, from boxes of a body to boxes of another one ahead of them."""
    axis, side = direction // 2, direction % 2
    known = ranks_of_both(body, other)
    theirs = fine_columns(other, axis, known)
    facing = {(body[axis][index + side], other[axis][met + 1 - side]): True
              for column, indexes in fine_columns(body, axis, known).items() if column in theirs
              for index in indexes for met in theirs[column]}
    found = [minus(back, front) if side == 1 else minus(front, back) for front, back in facing]
    return [gap for gap in found if sign(gap) >= 0]


def room(bodies, name, direction):
    """Returns the least gap from a box of a body to one of another body ahead of it, or None if there is none."""
    return least_of([gap for other in others_than(bodies, name, direction)
                     for gap in gaps_ahead(bodies[name], bodies[other], direction)])


def are_large(bodies, cuts):
    """Returns True if the cuts of two of a list of bodies make too many boxes; cuts are those of all of them."""
    if many_boxes(cuts) <= MOST_BOXES:
        return False
    for body, other in combinations(bodies, 2):
        if many_boxes(cuts_of_both(body, other)) > MOST_BOXES:
            return True
    return False


def columns_among(bodies, axis, known):
    """Returns the dict from the columns between all cuts of a list of bodies to the lists of their runs there.

    A run is told by its ends along the axis, as ranks of cuts, and the index of its body.
    """
    found = {}
    for index, body in enumerate(bodies):
        ends = [known[axis][cut] for cut in body[axis]]
        for column, indexes in fine_columns(body, axis, known).items():
            runs = found.setdefault(column, [])
            runs.extend([(ends[first], ends[behind], index) for first, behind in index_runs(indexes)])
    return found


def put_blocks(runs, axis, blocks):
    """Puts into blocks what blocks what in a column with ascending runs; returns False if two of them overlap.

    blocks has for each body six integers, of which the bits are the indexes of bodies.
    """
    reached, seen = runs[0][0], 0
    for low, high, index in runs:
        if low < reached:
            return False
        reached = high
        blocks[index][2 * axis] |= seen
        seen |= 1 << index
    seen = 0
    for _, _, index in runs[::-1]:
        blocks[index][2 * axis + 1] |= seen
        seen |= 1 << index
    return True


def blocks_among(bodies, known):
    """Returns for each of a list of bodies the six integers of what blocks it, or None if two of them overlap."""
    blocks = [[0] * 6 for _ in bodies]
    for axis in range(3):
        for runs in columns_among(bodies, axis, known).values():
            if not put_blocks(sorted(runs), axis, blocks):
                return None
    # A body with several runs in a column does not block itself.
    return [[bits - (bits & 1 << index) for bits in six] for index, six in enumerate(blocks)]


class Crowd:
    """Bodies, a dict by their names, and what blocks each of them, if no two of them overlap.

    Names stand for bits, the least name for the lowest one.
    """

    def __init__(self, bodies):
        self.solids = {name: body for name, body in bodies.items()}
        self.order = sorted(bodies)
        self.bits = {name: 1 << index for index, name in enumerate(self.order)}
        ordered = [bodies[name] for name in self.order]
        known = [ranks([cut for body in ordered for cut in body[axis]]) for axis in range(3)]
        self.large = are_large(ordered, known)
        found = blocks_among(ordered, known)
        self.overlap = found is None
        self.blocks = {} if found is None else {name: six for name, six in zip(self.order, found)}

    def least_in(self, bits):
        """Returns the least one of the names that bits, at least one, stand for."""
        return self.order[(bits & -bits).bit_length() - 1]


class Crowds:
    """The crowds that were asked for last, the latest one first."""

    def __init__(self):
        self.kept = []


def crowd_of(bodies):
    """Returns the crowd of bodies, of any size."""
    global CROWDS
    # Who asks in which order bodies come apart asks for many orders of the same bodies.
    if CROWDS is None:
        CROWDS = Crowds()
    crowds = CROWDS
    for crowd in crowds.kept:
        if crowd.solids == bodies:
            return crowd
    found = Crowd(bodies)
    crowds.kept = [found] + crowds.kept[:MOST_KEPT - 1]
    return found


def checked_crowd(bodies):
    """Returns the crowd of bodies; raises TooLarge for too many boxes, then NotRight if two bodies overlap."""
    crowd = crowd_of(bodies)
    if crowd.large:
        raise TooLarge("the cuts of two bodies make more than 20000 boxes")
    if crowd.overlap:
        raise NotRight("two bodies overlap")
    return crowd


def next_step(crowd, left):
    """Returns the first name that can be taken away, with the least direction in which it can, or None.

    left are the bits of the names that are left.
    """
    for name in crowd.order:
        if crowd.bits[name] & left:
            for direction, bits in enumerate(crowd.blocks[name]):
                if not bits & left:
                    return (name, direction)
    return None


def ways_apart(crowd):
    """Returns the steps in which the bodies of a crowd come apart, or which of them hold each other."""
    left = (1 << len(crowd.order)) - 1
    steps = []
    step = next_step(crowd, left)
    while step is not None:
        steps.append(step)
        left -= crowd.bits[step[0]]
        step = next_step(crowd, left)
    if not left:
        return ("apart", steps)
    return ("held", [(name, [crowd.least_in(bits & left) for bits in crowd.blocks[name]])
                     for name in crowd.order if crowd.bits[name] & left])


def taken_apart(bodies):
    """Returns the steps in which bodies come apart, or which of them hold each other."""
    return ways_apart(checked_crowd(bodies))


def accepts_order(bodies, steps):
    """Returns True if steps take away each body once, each where none of those that are left blocks it."""
    crowd = checked_crowd(bodies)
    left = (1 << len(crowd.order)) - 1
    for name, direction in steps:
        if not crowd.bits.get(name, 0) & left or not is_direction(direction) or crowd.blocks[name][direction] & left:
            return False
        left -= crowd.bits[name]
    return not left


def is_held(crowd, name, names, held):
    """Returns True if a name is blocked in the six directions by these names, all of them in a dict."""
    return len(names) == 6 and all(other in held and bits & crowd.bits[other] != 0
                                   for other, bits in zip(names, crowd.blocks[name]))


def accepts_held(bodies, rows):
    """Returns True if rows show that bodies hold each other."""
    crowd = checked_crowd(bodies)
    held = {name: True for name, _ in rows}
    if not rows or len(held) < len(rows) or not all(name in crowd.bits for name in held):
        return False
    return all(is_held(crowd, name, names, held) for name, names in rows)
