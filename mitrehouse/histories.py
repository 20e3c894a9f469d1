"""Histories: features that build a part one after the other, from nothing."""

from mitrehouse.bodies import EMPTY, cut, joined, kept, prism
from mitrehouse.errors import NotRight, NotThere, Stops, TooLarge, is_name
from mitrehouse.faces import face_corner, face_plane, is_face_name, roster_of
from mitrehouse.lengths import is_length, length_worth, numbers_in
from mitrehouse.outlines import fault, region, side_edges
from mitrehouse.ratios import ZERO, is_less, is_ratio, is_whole, minus, plus
from mitrehouse.settling import settle
from mitrehouse.sketches import is_sketch, numbers_of

MOST_RINGS = 6
MOST_CORNERS = 24
MOST_NUMBERS = 40
MOST_FEATURES = 30
DEEDS = ("join", "cut", "keep")


def is_feature_place(value):
    """Returns True if any value is the place of a feature."""
    if not isinstance(value, tuple) or not value:
        return False
    if value[0] == "base":
        return len(value) == 3 and is_whole(value[1]) and 0 <= value[1] <= 2 and is_length(value[2])
    return value[0] == "on" and len(value) == 2 and is_face_name(value[1])


def are_rings(value):
    """Returns True if any value is a tuple of 1 to 6 rings of at most 24 strings each."""
    if not isinstance(value, tuple) or not 1 <= len(value) <= MOST_RINGS:
        return False
    if not all(isinstance(ring, tuple) and len(ring) <= MOST_CORNERS for ring in value):
        return False
    return all(isinstance(point, str) for ring in value for point in ring)


def is_feature(value):
    """Returns True if any value is a feature."""
    if not isinstance(value, tuple) or len(value) != 8:
        return False
    name, deed, place, sketch, pick, rings, low, high = value
    if not is_name(name) or deed not in DEEDS or not is_feature_place(place):
        return False
    if not is_sketch(sketch) or not is_whole(pick) or pick < 0:
        return False
    return are_rings(rings) and is_length(low) and is_length(high)


def are_numbers(value):
    """Returns True if any value is a tuple of at most 40 pairs of a name and a ratio, names strictly ascending."""
    if not isinstance(value, tuple) or len(value) > MOST_NUMBERS:
        return False
    if not all(isinstance(pair, tuple) and len(pair) == 2 and is_name(pair[0]) and is_ratio(pair[1]) for pair in value):
        return False
    return all(value[k][0] < value[k + 1][0] for k in range(len(value) - 1))


def is_history(value):
    """Returns True if any value is a history."""
    if not isinstance(value, tuple) or len(value) != 2 or not are_numbers(value[0]):
        return False
    features = value[1]
    if not isinstance(features, tuple) or len(features) > MOST_FEATURES:
        return False
    return all(is_feature(feature) for feature in features) and len(names_of(features)) == len(features)


def names_of(features):
    """Returns the dict from the names of features to their indexes."""
    return {feature[0]: index for index, feature in enumerate(features)}


def check_history(history):
    """Raises NotRight if a value is no history."""
    if not is_history(history):
        raise NotRight("it is no history")


def feature_numbers(feature):
    """Returns the ascending list of the names of numbers in the lengths, the sketch and the place of a feature."""
    _, _, place, sketch, _, _, low, high = feature
    lengths = [place[2], low, high] if place[0] == "base" else [low, high]
    return sorted(set(numbers_of(sketch) + [name for length in lengths for name in numbers_in(length)]))


def needs(feature):
    """Returns the ascending list of the first strings of the labels in the name of the face of a feature's place."""
    place = feature[2]
    if place[0] == "base":
        return []
    label, marks = place[1]
    return sorted({word[0] for word in (label,) + marks})


def plane_of(place, numbers, body):
    """Returns the plane of a place as the tuple of its axis, h, (u, v) and side."""
    if place[0] == "base":
        return (place[1], length_worth(place[2], numbers), (ZERO, ZERO), 1)
    roster = roster_of(body)
    indexes = roster.bearing(place[1])
    if len(indexes) != 1:
        raise NotThere("the name of the face does not stand in the body")
    face = roster.faces[indexes[0]]
    side = 1 if face[1] % 2 == 1 else -1
    return (face[1] // 2, face_plane(body, face), face_corner(body, face), side)


def checked_plane(body, feature, numbers):
    """Returns the plane of a feature; raises Stops if it has none."""
    if not all(name in numbers for name in feature_numbers(feature)):
        raise Stops(feature[0], "number")
    try:
        return plane_of(feature[2], numbers, body)
    except NotThere:
        raise Stops(feature[0], "face") from None


def picked_shape(feature, numbers):
    """Returns the shape of the sketch that a feature picks; raises Stops if there is none."""
    told = settle(feature[3], numbers)
    if told[0] in ("none", "free", "loose"):
        raise Stops(feature[0], told[0])
    shapes = [told[1]] if told[0] == "one" else told[1]
    if feature[4] >= len(shapes):
        raise Stops(feature[0], "pick")
    return shapes[feature[4]]


def ends_along(feature, numbers, plane):
    """Returns the pair of the ends of a feature's prism along the axis; raises Stops if low is not below high."""
    low, high = length_worth(feature[6], numbers), length_worth(feature[7], numbers)
    if not is_less(low, high):
        raise Stops(feature[0], "low")
    _, h, _, side = plane
    return (plus(h, low), plus(h, high)) if side == 1 else (minus(h, high), minus(h, low))


def feature_prism(body, feature, numbers):
    """Returns the prism of a feature on a body; raises Stops if there is none."""
    plane = checked_plane(body, feature, numbers)
    shape = picked_shape(feature, numbers)
    if fault(shape, feature[5]) is not None:
        raise Stops(feature[0], "outline")
    low, high = ends_along(feature, numbers, plane)
    axis, _, (u, v), _ = plane
    us, vs, cells = region(shape, feature[5])
    moved_region = (tuple([plus(one, u) for one in us]), tuple([plus(one, v) for one in vs]), cells)
    return prism(moved_region, side_edges(shape, feature[5]), axis, low, high, feature[0])


def done(deed, body, added):
    """Returns what comes of a body and a prism by a deed."""
    if deed == "join":
        return joined(body, added)
    return cut(body, added) if deed == "cut" else kept(body, added)


def behind(body, feature, numbers):
    """Returns the body behind a feature, of the body ahead of it."""
    added = feature_prism(body, feature, numbers)
    try:
        found = done(feature[1], body, added)
    except TooLarge:
        raise Stops(feature[0], "large") from None
    if found == EMPTY:
        raise Stops(feature[0], "empty")
    return found


def stages(history):
    """Returns the list of the bodies behind the features of a history."""
    check_history(history)
    numbers = dict(history[0])
    body = EMPTY
    found = []
    for feature in history[1]:
        body = behind(body, feature, numbers)
        found.append(body)
    return found


def built(history):
    """Returns the body of a history."""
    found = stages(history)
    return found[-1] if found else EMPTY


def stop_of(history):
    """Returns the pair of the name of the feature at which a history stops and the reason, or None."""
    try:
        stages(history)
    except Stops as stop:
        return (stop.name, stop.reason)
    return None
