"""Edges of bodies: the longest stretches along which the same faces meet in the same way."""

from mitrehouse.bodies import cells_of
from mitrehouse.errors import NotThere
from mitrehouse.faces import checked_roster, roster_of
from mitrehouse.grids import next_axes, placed
from mitrehouse.ratios import is_less, minus, total


def kind_at(full, axis, low):
    """Returns how the four places around a side line are full, as a word; low is its lower end among the cuts."""
    u, v = next_axes(axis)
    at, i, j = low[axis], low[u], low[v]
    around = [placed(axis, at, i - 1, j - 1) in full, placed(axis, at, i, j - 1) in full,
              placed(axis, at, i, j) in full, placed(axis, at, i - 1, j) in full]
    many = sum(around)
    if many == 2:
        # The four places are told in the order around the line, so that those across have the same side of it.
        return "cross" if around[0] == around[2] else "flat"
    return "out" if many == 1 else "in"


def meeting_lines(roster):
    """Returns the list of the side lines at which faces meet: axis, indexes of u, v and along, kind and faces."""
    full = cells_of(roster.solid)
    found = []
    for (axis, i, j, k), indexes in roster.side_lines().items():
        # Indexes ascend, so that those of one face alone are all the same.
        if indexes[0] != indexes[-1]:
            low = (i, j, k)
            u, v = next_axes(axis)
            found.append((axis, low[u], low[v], low[axis], kind_at(full, axis, low), tuple(sorted(set(indexes)))))
    return sorted(found)


def follows(last, line):
    """Returns True if a side line goes on with the one of lists of a first line and the index behind a last one."""
    first, behind = last
    return first[:3] == line[:3] and behind == line[3] and first[4:] == line[4:]


def edges_among(roster):
    """Returns the list of the edges of the body of a roster."""
    stretches = []
    for line in meeting_lines(roster):
        if stretches and follows(stretches[-1], line):
            stretches[-1] = (stretches[-1][0], line[3] + 1)
        else:
            stretches.append((line, line[3] + 1))
    body = roster.solid
    found = []
    for (axis, i, j, first, kind, indexes), behind in stretches:
        u, v = next_axes(axis)
        found.append((axis, (body[u][i], body[v][j]), body[axis][first], body[axis][behind], kind, indexes))
    return found


def kept_edges(roster):
    """Returns the list of the edges of the body of a roster; who is given it does not change it."""
    if roster.known_edges is None:
        roster.known_edges = edges_among(roster)
    return roster.known_edges


def edges(body):
    """Returns the list of the edges of a body."""
    return list(kept_edges(roster_of(body)))


def edge_length(body, kind):
    """Returns the sum of the lengths of the edges of a kind."""
    return total([minus(high, low) for _, _, low, high, word, _ in edges(body) if word == kind])


def longest_edge(body):
    """Returns the index of the longest edge, the first one of several."""
    found, longest = None, None
    for index, (_, _, low, high, _, _) in enumerate(edges(body)):
        length = minus(high, low)
        if found is None or is_less(longest, length):
            found, longest = index, length
    if found is None:
        raise NotThere("the body has no edge")
    return found


def edges_of_face(body, index):
    """Returns the list of the indexes of the edges that have the face with the index."""
    roster = checked_roster(body, index)
    return [at for at, edge in enumerate(kept_edges(roster)) if index in edge[5]]
