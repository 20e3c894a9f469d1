"""Faces of bodies, the marks of their neighbours, and the names by which they are meant."""

from mitrehouse.bodies import facets_area, is_label
from mitrehouse.covers import least_cover
from mitrehouse.errors import NotRight, NotThere
from mitrehouse.grids import linked_groups, next_axes, placed
from mitrehouse.ratios import is_whole


def facets_by_label(body, direction):
    """Returns the dict from labels to the places, in a dict, whose facet in a direction has the label."""
    found = {}
    for place, labels in body[3]:
        if labels[direction] is not None:
            places = found.setdefault(labels[direction], {})
            places[place] = True
    return found


def faces_looking(body, direction):
    """Returns the list of the faces in a direction, by their places."""
    # Of two cells one behind the other in the direction just one has a facet there, so neighbours lie beside.
    found = [(label, direction, tuple(sorted(group)))
             for label, places in facets_by_label(body, direction).items() for group in linked_groups(places)]
    return sorted(found, key=lambda face: face[2])


def faces(body):
    """Returns the list of the faces of a body."""
    return [face for direction in range(6) for face in faces_looking(body, direction)]


def facet_edges(place, direction):
    """Returns the four edges of a facet, each told by its axis and its lower end among the cuts."""
    axis = direction // 2
    u, v = next_axes(axis)
    at = place[axis] + direction % 2
    low, beside, above = [placed(axis, at, place[u] + one, place[v] + other) for one, other in ((0, 0), (1, 0), (0, 1))]
    return [(u, low), (u, above), (v, low), (v, beside)]


def faces_at_edges(found):
    """Returns the dict from the edges of facets to the lists of the indexes of the faces there."""
    ends = {}
    for index, (_, direction, places) in enumerate(found):
        for place in places:
            for edge in facet_edges(place, direction):
                met = ends.setdefault(edge, [])
                met.append(index)
    return ends


def marks_among(found):
    """Returns the list of the marks of all faces of a body."""
    marks = [{} for _ in found]
    for indexes in faces_at_edges(found).values():
        for index in indexes:
            for other in indexes:
                if other != index:
                    marks[index][found[other][0]] = True
    return [tuple(sorted(labels)) for labels in marks]


def marks_of(body):
    """Returns the list of the marks of the faces, in their order."""
    return marks_among(faces(body))


def face_area(body, face):
    """Returns the area of a face of a body."""
    return facets_area(body[:3], face[1] // 2, face[2])


def face_plane(body, face):
    """Returns the ratio at which the plane of a face meets the axis of its direction."""
    axis = face[1] // 2
    return body[axis][face[2][0][axis] + face[1] % 2]


def face_corner(body, face):
    """Returns the pair of the least coordinates of a face along the two next axes."""
    u, v = next_axes(face[1] // 2)
    return (body[u][min([place[u] for place in face[2]])], body[v][min([place[v] for place in face[2]])])


def is_face_name(value):
    """Returns True if any value is a name of faces."""
    if not isinstance(value, tuple) or len(value) != 2 or not is_label(value[0]):
        return False
    marks = value[1]
    if not isinstance(marks, tuple) or not all(is_label(mark) for mark in marks):
        return False
    return all(marks[k] < marks[k + 1] for k in range(len(marks) - 1))


def has_all(marks, some):
    """Returns True if all of some marks are among the marks."""
    return all(mark in marks for mark in some)


class Roster:
    """The faces of a body with their marks, and the indexes of the faces with each label."""

    def __init__(self, body):
        self.faces = faces(body)
        self.marks = marks_among(self.faces)
        self.groups = {}
        self.bits = {}
        for index, face in enumerate(self.faces):
            group = self.groups.setdefault(face[0], [])
            group.append(index)

    def check(self, index):
        """Raises NotThere if there is no face with the index."""
        if not is_whole(index) or not 0 <= index < len(self.faces):
            raise NotThere("there is no face with this index")

    def bearing(self, name):
        """Returns the ascending list of the indexes of the faces that bear a name."""
        return [index for index in self.groups.get(name[0], []) if has_all(self.marks[index], name[1])]

    def others_like(self, index):
        """Returns the ascending list of the indexes of the other faces with the label of a face."""
        return [other for other in self.groups[self.faces[index][0]] if other != index]

    def mark_bits(self, label):
        """Returns the dict from marks to integers, in which the faces with the label that have them are bits."""
        if label not in self.bits:
            found = {}
            for bit, index in enumerate(self.groups[label]):
                for mark in self.marks[index]:
                    found[mark] = found.get(mark, 0) | 1 << bit
            self.bits[label] = found
        return self.bits[label]

    def least_name(self, index):
        """Returns the least name of a face, or None if it has a twin."""
        label, marks = self.faces[index][0], self.marks[index]
        group, bits = self.groups[label], self.mark_bits(label)
        everyone = (1 << len(group)) - 1
        # A name means the face if each other one with the label lacks one of the marks that are chosen.
        cover = least_cover([everyone - bits[mark] for mark in marks], everyone - (1 << group.index(index)))
        if cover is None:
            return None
        return (label, tuple([marks[k] for k in cover]))


def checked_roster(body, index):
    """Returns the roster of a body; raises NotThere if it has no face with the index."""
    roster = Roster(body)
    roster.check(index)
    return roster


def bearers(body, name):
    """Returns the ascending list of the indexes of the faces that bear a name."""
    return Roster(body).bearing(name)


def meant(body, name):
    """Returns the index of the face that a name means, or None."""
    indexes = bearers(body, name)
    return indexes[0] if len(indexes) == 1 else None


def least_name(body, index):
    """Returns the least name of the face with the index, or None if it has a twin."""
    return checked_roster(body, index).least_name(index)


def twin(body, index):
    """Returns the least index of a twin of the face with the index, or None."""
    roster = checked_roster(body, index)
    for other in roster.others_like(index):
        if has_all(roster.marks[other], roster.marks[index]):
            return other
    return None


def name_paper(body, index, name):
    """Returns an accepted paper for the face with the index and a name that means it."""
    roster = checked_roster(body, index)
    if roster.bearing(name) != [index]:
        raise NotRight("the name does not mean the face")
    # Marks of a name are ascending, so the first one that is lacking is the least one.
    return [(other, [mark for mark in name[1] if mark not in roster.marks[other]][0])
            for other in roster.others_like(index)]


def accepts_name(body, index, name, paper):
    """Returns True if a paper for the face with the index and the name is accepted."""
    roster = checked_roster(body, index)
    if index not in roster.bearing(name) or [other for other, _ in paper] != roster.others_like(index):
        return False
    return all(mark in name[1] and mark not in roster.marks[other] for other, mark in paper)
