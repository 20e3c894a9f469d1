"""Faces of bodies, the marks of their neighbours, and the names by which they are meant."""

from mitrehouse.bodies import facets_area, is_label
from mitrehouse.covers import least_cover
from mitrehouse.errors import NotRight, NotThere
from mitrehouse.grids import BESIDE, linked_groups, next_axes
from mitrehouse.ratios import is_whole

MOST_KEPT = 8
SHELF = None


def facets_by_label(body, direction):
    """Returns the dict from labels to the places, in a dict, whose facet in a direction has the label."""
    found = {}
    for place, labels in body[3]:
        if labels[direction] is not None:
            places = found.setdefault(labels[direction], {})
            places[place] = True
    return found


def faces_looking(body, direction):
    """Returns the list of the faces in a direction, by their places."""
    # Of two cells one behind the other in the direction just one has a facet there, so neighbours lie beside.
    near = BESIDE[direction // 2]
    found = [(label, direction, tuple(sorted(group)))
             for label, places in facets_by_label(body, direction).items() for group in linked_groups(places, near)]
    return sorted(found, key=lambda face: face[2])


def all_faces(body):
    """Returns the list of the faces of a body, made anew."""
    return [face for direction in range(6) for face in faces_looking(body, direction)]


def facet_edges(place, direction):
    """Returns the four edges of a facet, each told by its axis and its lower end among the cuts."""
    i, j, k = place
    if direction <= 1:
        at = i + direction
        return [(1, at, j, k), (1, at, j, k + 1), (2, at, j, k), (2, at, j + 1, k)]
    if direction <= 3:
        at = j + direction - 2
        return [(0, i, at, k), (0, i, at, k + 1), (2, i, at, k), (2, i + 1, at, k)]
    at = k + direction - 4
    return [(0, i, j, at), (0, i, j + 1, at), (1, i, j, at), (1, i + 1, j, at)]


def faces_at_edges(found):
    """Returns the dict from the edges of facets to the ascending lists of the indexes of the faces there."""
    ends = {}
    for index, (_, direction, places) in enumerate(found):
        for place in places:
            for edge in facet_edges(place, direction):
                if edge in ends:
                    ends[edge].append(index)
                else:
                    ends[edge] = [index]
    return ends


def neighbours_among(many, ends):
    """Returns for each of so many faces the dict of its neighbours, for what faces_at_edges tells."""
    found = [{} for _ in range(many)]
    for indexes in ends.values():
        # Most edges lie within one face, so that the first index is the last one, too.
        if indexes[0] != indexes[-1]:
            for index in indexes:
                for other in indexes:
                    if other != index:
                        found[index][other] = True
    return found


def face_area(body, face):
    """Returns the area of a face of a body."""
    return facets_area(body[:3], face[1] // 2, face[2])


def face_plane(body, face):
    """Returns the ratio at which the plane of a face meets the axis of its direction."""
    axis = face[1] // 2
    return body[axis][face[2][0][axis] + face[1] % 2]


def face_corner(body, face):
    """Returns the pair of the least coordinates of a face along the two next axes."""
    u, v = next_axes(face[1] // 2)
    return (body[u][min([place[u] for place in face[2]])], body[v][min([place[v] for place in face[2]])])


def is_face_name(value):
    """Returns True if any value is a name of faces."""
    if not isinstance(value, tuple) or len(value) != 2 or not is_label(value[0]):
        return False
    marks = value[1]
    if not isinstance(marks, tuple) or not all(is_label(mark) for mark in marks):
        return False
    return all(marks[k] < marks[k + 1] for k in range(len(marks) - 1))


def bits_at(bits):
    """Returns the ascending list of the bits of an integer."""
    return [bit for bit in range(bits.bit_length()) if bits >> bit & 1]


class Roster:
    """The faces of a body with their marks and names, and the indexes of the faces with each label.

    Neighbours, marks, names and the edges of the body are made when they are asked for first, and kept then.
    """

    def __init__(self, body):
        self.solid = body
        self.faces = all_faces(body)
        self.groups = {}
        self.bits = {}
        self.known_names = {}
        self.known_lines = None
        self.known_beside = None
        self.known_marks = None
        self.known_edges = None
        for index, face in enumerate(self.faces):
            group = self.groups.setdefault(face[0], [])
            group.append(index)

    def side_lines(self):
        """Returns what faces_at_edges tells of the faces; who is given this, or what follows, does not change it."""
        if self.known_lines is None:
            self.known_lines = faces_at_edges(self.faces)
        return self.known_lines

    def beside(self):
        """Returns the list of the dicts of the neighbours of the faces."""
        if self.known_beside is None:
            self.known_beside = neighbours_among(len(self.faces), self.side_lines())
        return self.known_beside

    def marks(self):
        """Returns the list of the marks of the faces."""
        if self.known_marks is None:
            self.known_marks = [tuple(sorted({self.faces[other][0] for other in near})) for near in self.beside()]
        return self.known_marks

    def check(self, index):
        """Raises NotThere if there is no face with the index."""
        if not is_whole(index) or not 0 <= index < len(self.faces):
            raise NotThere("there is no face with this index")

    def mark_bits(self, label):
        """Returns the dict from marks to integers, in which the faces with the label that have them are bits."""
        if label not in self.bits:
            found = {}
            marks = self.marks()
            for bit, index in enumerate(self.groups[label]):
                for mark in marks[index]:
                    found[mark] = found.get(mark, 0) | 1 << bit
            self.bits[label] = found
        return self.bits[label]

    def bearing_bits(self, label, some):
        """Returns the integer whose bits are those faces with a label, at least one, that have all of some marks."""
        found = (1 << len(self.groups[label])) - 1
        if some:
            bits = self.mark_bits(label)
            for mark in some:
                found = found & bits.get(mark, 0)
        return found

    def bearing(self, name):
        """Returns the ascending list of the indexes of the faces that bear a name."""
        label, some = name
        if label not in self.groups:
            return []
        return [self.groups[label][bit] for bit in bits_at(self.bearing_bits(label, some))]

    def others_like(self, index):
        """Returns the ascending list of the indexes of the other faces with the label of a face."""
        return [other for other in self.groups[self.faces[index][0]] if other != index]

    def twin(self, index):
        """Returns the least index of a twin of a face, or None."""
        twins = [other for other in self.bearing((self.faces[index][0], self.marks()[index])) if other != index]
        return twins[0] if twins else None

    def least_name(self, index):
        """Returns the least name of a face, or None if it has a twin."""
        if index not in self.known_names:
            self.known_names[index] = self.name_sought(index)
        return self.known_names[index]

    def name_sought(self, index):
        """Returns the least name of a face, or None, by the least choice of its marks."""
        label, marks = self.faces[index][0], self.marks()[index]
        group = self.groups[label]
        if len(group) == 1:
            return (label, ())
        bits = self.mark_bits(label)
        everyone = (1 << len(group)) - 1
        # A name means the face if each other one with the label lacks one of the marks that are chosen.
        cover = least_cover([everyone - bits[mark] for mark in marks], everyone - (1 << group.index(index)))
        return None if cover is None else (label, tuple([marks[k] for k in cover]))


class Shelf:
    """The rosters of the bodies that were asked for last, the latest one first."""

    def __init__(self):
        self.rosters = []

    def roster(self, body):
        """Returns the roster of a body, made anew if it is not on the shelf."""
        for kept in self.rosters:
            if kept.solid == body:
                return kept
        found = Roster(body)
        self.rosters = [found] + self.rosters[:MOST_KEPT - 1]
        return found


def roster_of(body):
    """Returns the roster of a body."""
    global SHELF
    # Who asks for one face or name of a body asks for others of it, too; all of them need the same roster.
    if SHELF is None:
        SHELF = Shelf()
    shelf = SHELF
    return shelf.roster(body)


def checked_roster(body, index):
    """Returns the roster of a body; raises NotThere if it has no face with the index."""
    roster = roster_of(body)
    roster.check(index)
    return roster


def faces(body):
    """Returns the list of the faces of a body."""
    return list(roster_of(body).faces)


def marks_of(body):
    """Returns the list of the marks of the faces, in their order."""
    return list(roster_of(body).marks())


def bearers(body, name):
    """Returns the ascending list of the indexes of the faces that bear a name."""
    return roster_of(body).bearing(name)


def meant(body, name):
    """Returns the index of the face that a name means, or None."""
    indexes = bearers(body, name)
    return indexes[0] if len(indexes) == 1 else None


def least_name(body, index):
    """Returns the least name of the face with the index, or None if it has a twin."""
    return checked_roster(body, index).least_name(index)


def twin(body, index):
    """Returns the least index of a twin of the face with the index, or None."""
    return checked_roster(body, index).twin(index)


def name_paper(body, index, name):
    """Returns an accepted paper for the face with the index and a name that means it."""
    roster = checked_roster(body, index)
    if roster.bearing(name) != [index]:
        raise NotRight("the name does not mean the face")
    marks = roster.marks()
    # Marks of a name are ascending, so the first one that is lacking is the least one.
    return [(other, [mark for mark in name[1] if mark not in marks[other]][0]) for other in roster.others_like(index)]


def accepts_name(body, index, name, paper):
    """Returns True if a paper for the face with the index and the name is accepted."""
    roster = checked_roster(body, index)
    if index not in roster.bearing(name) or [other for other, _ in paper] != roster.others_like(index):
        return False
    marks = roster.marks()
    return all(mark in name[1] and mark not in marks[other] for other, mark in paper)
