"""The checker of bodies: bodies, names of faces, orders, held bodies and standing are taken if they are right."""

from mitrehouse.errors import NotRight
from mitrehouse.ratios import ONE, ZERO, ascending, is_less, is_ratio, is_whole, minus, over, plus, sign, times

MOST_KEPT = 8
EMPTY = ((), (), (), ())
ALBUM = None


def are_cuts(value):
    """Returns True if any value is a tuple of ratios, strictly ascending by worth."""
    if not isinstance(value, tuple) or not all(is_ratio(one) for one in value):
        return False
    return all(is_less(value[k], value[k + 1]) for k in range(len(value) - 1))


def is_label(value):
    """Returns True if any value is a pair of strings."""
    return isinstance(value, tuple) and len(value) == 2 and isinstance(value[0], str) and isinstance(value[1], str)


def is_cell(value, sizes):
    """Returns True if any value is a pair of a place among so many layers and of six labels or None."""
    if not isinstance(value, tuple) or len(value) != 2:
        return False
    place, labels = value
    if not isinstance(place, tuple) or len(place) != 3 or not isinstance(labels, tuple) or len(labels) != 6:
        return False
    if not all(is_whole(at) and 0 <= at < size for at, size in zip(place, sizes)):
        return False
    return all(label is None or is_label(label) for label in labels)


def beyond(place, direction):
    """Returns the place beside a place in a direction."""
    i, j, k = place
    step = 1 if direction % 2 == 1 else -1
    if direction < 2:
        return (i + step, j, k)
    return (i, j + step, k) if direction < 4 else (i, j, k + step)


def has_due_labels(full):
    """Returns True if just those sides of the cells of a dict have no label beyond which there is another one."""
    return all((labels[direction] is None) == (beyond(place, direction) in full)
               for place, labels in full.items() for direction in range(6))


def has_needed_cuts(cells, axis, size):
    """Returns True if the outer ones of so many layers have cells, and no two neighbouring layers are the same."""
    layers = [{} for _ in range(size)]
    for place, labels in cells:
        rest = place[:axis] + place[axis + 1:]
        layers[place[axis]][rest] = labels[:2 * axis] + labels[2 * axis + 2:]
    return bool(layers[0]) and bool(layers[-1]) and all(layers[k] != layers[k + 1] for k in range(size - 1))


def takes_body(value):
    """Returns True if any value is a thin body."""
    if not isinstance(value, tuple) or len(value) != 4:
        return False
    cells = value[3]
    if not all(are_cuts(along) for along in value[:3]) or not isinstance(cells, tuple):
        return False
    sizes = [len(along) - 1 for along in value[:3]]
    if not all(is_cell(cell, sizes) for cell in cells):
        return False
    if not cells:
        return value == EMPTY
    if any(cells[k][0] >= cells[k + 1][0] for k in range(len(cells) - 1)):
        return False
    if not has_due_labels({place: labels for place, labels in cells}):
        return False
    return all(has_needed_cuts(cells, axis, size) for axis, size in enumerate(sizes))


def face_from(left, start, direction):
    """Returns the face with a place, and takes its places out of a dict from the places of facets to labels."""
    label = left.pop(start)
    beside = [way for way in range(6) if way // 2 != direction // 2]
    places = [start]
    fresh = [start]
    while fresh:
        place = fresh.pop()
        for way in beside:
            other = beyond(place, way)
            if left.get(other) == label:
                del left[other]
                places.append(other)
                fresh.append(other)
    return (label, direction, tuple(sorted(places)))


def faces_of(body):
    """Returns the list of the faces of a body."""
    found = []
    for direction in range(6):
        # Cells ascend, so that each face is found at its least place, and the faces ascend by these.
        starts = [place for place, labels in body[3] if labels[direction] is not None]
        left = {place: labels[direction] for place, labels in body[3] if labels[direction] is not None}
        for start in starts:
            if start in left:
                found.append(face_from(left, start, direction))
    return found


def facet_edges(place, direction):
    """Returns the four edges of a facet: each has an axis and the lower end along it."""
    low = beyond(place, direction) if direction % 2 == 1 else place
    u, v = 2 * ((direction // 2 + 1) % 3), 2 * ((direction // 2 + 2) % 3)
    return [(u, low), (u, beyond(low, v + 1)), (v, low), (v, beyond(low, u + 1))]


def marks_among(found):
    """Returns for each of a list of faces the dict of the labels of its neighbours."""
    meeting = {}
    for index, (_, direction, places) in enumerate(found):
        for place in places:
            for edge in facet_edges(place, direction):
                there = meeting.setdefault(edge, {})
                there[index] = True
    marks = [{} for _ in found]
    for there in meeting.values():
        if len(there) > 1:
            for index in there:
                for other in there:
                    if other != index:
                        marks[index][found[other][0]] = True
    return marks


def columns_along(bodies, axis, ranks):
    """Returns the dict from the columns between all cuts of a list of bodies to their cells there.

    A cell is told by its ends along the axis and the index of its body; ranks tell where among all cuts one stands.
    """
    u, v = (axis + 1) % 3, (axis + 2) % 3
    found = {}
    for index, body in enumerate(bodies):
        us, vs = [ranks[u][one] for one in body[u]], [ranks[v][one] for one in body[v]]
        ends = [ranks[axis][one] for one in body[axis]]
        for place, _ in body[3]:
            cell = (ends[place[axis]], ends[place[axis] + 1], index)
            for column in range(us[place[u]], us[place[u] + 1]):
                for row in range(vs[place[v]], vs[place[v] + 1]):
                    cells = found.setdefault((column, row), [])
                    cells.append(cell)
    return found


def adds_blocks(cells, axis, blocks):
    """Adds to blocks what blocks each body in a column along an axis; returns False if two cells overlap.

    cells are ascending by their ends; blocks has for each body six integers, whose bits are indexes of bodies.
    """
    reached, seen = cells[0][0], 0
    for low, high, index in cells:
        if low < reached:
            return False
        reached = high
        blocks[index][2 * axis] |= seen
        seen |= 1 << index
    seen = 0
    for _, _, index in cells[::-1]:
        blocks[index][2 * axis + 1] |= seen
        seen |= 1 << index
    return True


def blocks_among(bodies):
    """Returns for each of a list of bodies the six integers of what blocks it, or None if two of them overlap."""
    blocks = [[0, 0, 0, 0, 0, 0] for _ in bodies]
    cuts = [ascending([one for body in bodies for one in body[axis]]) for axis in range(3)]
    ranks = [{one: rank for rank, one in enumerate(along)} for along in cuts]
    for axis in range(3):
        for cells in columns_along(bodies, axis, ranks).values():
            if not adds_blocks(sorted(cells), axis, blocks):
                return None
    # A body with several cells in a column does not block itself.
    return [[bits - (bits & 1 << index) for bits in six] for index, six in enumerate(blocks)]


class Look:
    """What was found out about a body: its faces, and the labels of the neighbours of each."""

    def __init__(self, body):
        self.solid = body
        self.faces = faces_of(body)
        self.near_labels = marks_among(self.faces)


class Scene:
    """What was found out about bodies, a dict by their names: the index of each, and what blocks each of them."""

    def __init__(self, bodies):
        self.solids = {name: body for name, body in bodies.items()}
        self.indexes = {name: index for index, name in enumerate(bodies)}
        self.blocks = blocks_among(list(bodies.values()))

    def blockers(self, name, direction):
        """Returns the integer whose bits are the indexes of what blocks a body in a direction."""
        return self.blocks[self.indexes[name]][direction]


class Album:
    """The looks and the scenes that were asked for last, the latest ones first."""

    def __init__(self):
        self.looks = []
        self.scenes = []


def album():
    """Returns the album of all looks and scenes."""
    global ALBUM
    # Who hands in one paper about a body hands in others, too; what is found out about the body serves all of them.
    if ALBUM is None:
        ALBUM = Album()
    return ALBUM


def has_whole_numbers(body):
    """Returns True if what is equal to a body has integers where this has them: True and 1 are equal."""
    return (all(is_whole(part) for along in body[:3] for one in along for part in one)
            and all(is_whole(at) for place, _ in body[3] for at in place))


def check_body(body):
    """Raises NotRight if a value is no body."""
    if not takes_body(body):
        raise NotRight("it is no body")


def look_at(body):
    """Returns the look at a body; raises NotRight if it is none."""
    kept = album()
    for look in kept.looks:
        if look.solid == body and has_whole_numbers(body):
            return look
    check_body(body)
    found = Look(body)
    kept.looks = [found] + kept.looks[:MOST_KEPT - 1]
    return found


def scene_of(bodies):
    """Returns the scene of bodies; raises NotRight if one of them is none."""
    kept = album()
    for scene in kept.scenes:
        if scene.solids == bodies and all(has_whole_numbers(body) for body in bodies.values()):
            return scene
    for body in bodies.values():
        check_body(body)
    found = Scene(bodies)
    kept.scenes = [found] + kept.scenes[:MOST_KEPT - 1]
    return found


def is_name_of_faces(value):
    """Returns True if any value is a name of faces."""
    if not isinstance(value, tuple) or len(value) != 2 or not is_label(value[0]) or not isinstance(value[1], tuple):
        return False
    marks = value[1]
    return all(is_label(mark) for mark in marks) and all(marks[k] < marks[k + 1] for k in range(len(marks) - 1))


def takes_name(body, face, name, others):
    """Returns True if others show that a name means a face of a body."""
    look = look_at(body)
    if face not in look.faces or not is_name_of_faces(name):
        return False
    index = look.faces.index(face)
    if name[0] != face[0] or not all(mark in look.near_labels[index] for mark in name[1]):
        return False
    rivals = [at for at, other in enumerate(look.faces) if other[0] == face[0] and at != index]
    if [other for other, _ in others] != [look.faces[at] for at in rivals]:
        return False
    return all(mark in name[1] and mark not in look.near_labels[at] for at, (_, mark) in zip(rivals, others))


def takes_order(bodies, steps):
    """Returns True if steps take away each body once, each where none of those that are left blocks it."""
    scene = scene_of(bodies)
    if scene.blocks is None:
        return False
    left = {name: True for name in bodies}
    bits = (1 << len(left)) - 1
    for name, direction in steps:
        if name not in left or not is_whole(direction) or not 0 <= direction <= 5:
            return False
        if scene.blockers(name, direction) & bits:
            return False
        del left[name]
        bits -= 1 << scene.indexes[name]
    return not left


def is_held(scene, name, names, held):
    """Returns True if a body is blocked in the six directions by these ones, all of them in a dict."""
    return len(names) == 6 and all(other in held and scene.blockers(name, direction) >> scene.indexes[other] & 1
                                   for direction, other in enumerate(names))


def takes_held(bodies, rows):
    """Returns True if rows show that bodies hold each other."""
    scene = scene_of(bodies)
    held = {name: True for name, _ in rows}
    if scene.blocks is None or not rows or len(held) < len(rows) or not all(name in bodies for name in held):
        return False
    return all(is_held(scene, name, names, held) for name, names in rows)


def foot_of(body):
    """Returns the dict of the corners of the foot of a body."""
    xs, ys = body[:2]
    return {(xs[i + one], ys[j + other]): True for (i, j, k), _ in body[3] if k == 0
            for one in (0, 1) for other in (0, 1)}


def centre_of(body):
    """Returns the centre of a body, seen from above."""
    sums, whole = [ZERO, ZERO], ZERO
    for place, _ in body[3]:
        ends = [(body[axis][place[axis]], body[axis][place[axis] + 1]) for axis in range(3)]
        size = times(times(minus(ends[0][1], ends[0][0]), minus(ends[1][1], ends[1][0])), minus(ends[2][1], ends[2][0]))
        whole = plus(whole, size)
        for axis in (0, 1):
            sums[axis] = plus(sums[axis], times(size, plus(ends[axis][0], ends[axis][1])))
    return (over(sums[0], plus(whole, whole)), over(sums[1], plus(whole, whole)))


def are_weights(weights, corners, spot):
    """Returns True if pairs of a corner and a ratio show that a spot lies within corners, or on their border."""
    found, sums = ZERO, [ZERO, ZERO]
    for corner, weight in weights:
        if corner not in corners or not is_ratio(weight) or sign(weight) < 0:
            return False
        found = plus(found, weight)
        for axis in (0, 1):
            sums[axis] = plus(sums[axis], times(weight, corner[axis]))
    return found == ONE and tuple(sums) == spot


def beyond_line(line, spot):
    """Returns 1, 0 or -1 if a spot lies beyond a line, a triple of ratios, on it, or on its near side."""
    a, b, c = line
    return sign(minus(plus(times(a, spot[0]), times(b, spot[1])), c))


def is_beside(line, corners):
    """Returns True if a triple is one of a line, and none of the corners lies beyond it."""
    if len(line) != 3 or not all(is_ratio(one) for one in line) or line[0] == ZERO and line[1] == ZERO:
        return False
    return all(beyond_line(line, corner) <= 0 for corner in corners)


def takes_standing(body, paper):
    """Returns True if a paper shows that a body stands, tips or falls, as its word says."""
    check_body(body)
    if body == EMPTY:
        raise NotRight("the empty body does not stand")
    corners, spot = foot_of(body), centre_of(body)
    word = paper[0]
    if word == "held" and len(paper) == 2:
        return are_weights(paper[1], corners, spot)
    if word == "edge" and len(paper) == 3:
        _, weights, line = paper
        return is_beside(line, corners) and beyond_line(line, spot) >= 0 and are_weights(weights, corners, spot)
    return word == "falls" and len(paper) == 2 and is_beside(paper[1], corners) and beyond_line(paper[1], spot) > 0
