"""What edits leave: the fates of faces, and which features may go or change places."""

from mitrehouse.bodies import EMPTY
from mitrehouse.errors import NotThere, Stops
from mitrehouse.faces import checked_roster, roster_of
from mitrehouse.histories import behind, check_history, names_of, needs, stages
from mitrehouse.ratios import is_whole


def fate_of(roster, index, others):
    """Returns the fate of a face of a roster in another roster."""
    name = roster.least_name(index)
    if name is None:
        return ("twin",)
    indexes = others.bearing(name)
    if not indexes:
        return ("lost",)
    return ("means", indexes[0]) if len(indexes) == 1 else ("many",)


def fate(body, index, other):
    """Returns the fate of the face with the index in another body."""
    return fate_of(checked_roster(body, index), index, roster_of(other))


def roster_fates(roster, others):
    """Returns the list of the fates of all faces of a roster in another one."""
    return [fate_of(roster, index, others) for index in range(len(roster.faces))]


def fates(body, other):
    """Returns the list of the fates of all faces of a body in another one."""
    return roster_fates(roster_of(body), roster_of(other))


def same_faces(body, other):
    """Returns the list of the pairs of indexes of faces whose least names mean each other."""
    roster, others = roster_of(body), roster_of(other)
    there, back = roster_fates(roster, others), roster_fates(others, roster)
    return [(index, told[1]) for index, told in enumerate(there)
            if told[0] == "means" and back[told[1]] == ("means", index)]


def check_feature(history, name):
    """Raises NotThere if a history has no feature with the name."""
    if name not in names_of(history[1]):
        raise NotThere("there is no feature with this name")


def followers(history, name):
    """Returns the ascending list of the names of the features that name a feature, or a follower of it."""
    check_history(history)
    check_feature(history, name)
    wanted = {feature[0]: needs(feature) for feature in history[1]}
    found = {}
    fresh = [name]
    while fresh:
        named = fresh.pop()
        for follower, needed in wanted.items():
            if named in needed and follower not in found:
                found[follower] = True
                fresh.append(follower)
    return sorted(found)


def comes_back(body, features, numbers, bodies):
    """Returns True if features lead from a body, without a stop, to the same end as before.

    bodies are what was ahead of the first one of the features before, and behind each.
    """
    for feature, before in zip(features, bodies):
        # From the same body on, the same features lead to the same end.
        if body == before:
            return True
        try:
            body = behind(body, feature, numbers)
        except Stops:
            return False
    return body == bodies[-1]


def can_exchange(history, at):
    """Returns True if the features with the indexes at and at + 1 may be exchanged."""
    bodies = [EMPTY] + stages(history)
    features, numbers = history[1], dict(history[0])
    if not is_whole(at) or not 0 <= at < len(features) - 1:
        raise NotThere("there are no two such features")
    try:
        body = behind(behind(bodies[at], features[at + 1], numbers), features[at], numbers)
    except Stops:
        return False
    return comes_back(body, features[at + 2:], numbers, bodies[at + 2:])


def needless_features(history):
    """Returns the list of the names of the needless features, in order."""
    bodies = [EMPTY] + stages(history)
    features, numbers = history[1], dict(history[0])
    return [feature[0] for index, feature in enumerate(features)
            if comes_back(bodies[index], features[index + 1:], numbers, bodies[index + 1:])]
