"""The lines that a desk answers about bodies and histories."""

from mitrehouse.apart import crowd_of, ways_apart
from mitrehouse.bodies import EMPTY, extent, surface, volume
from mitrehouse.choosing import chosen
from mitrehouse.errors import MitreError
from mitrehouse.faces import bearers, face_area, faces, least_name, twin
from mitrehouse.lineage import fates
from mitrehouse.making import can_be_drawn, least_directions
from mitrehouse.measures import centre, flat_area, narrowest, section, thinnest
from mitrehouse.ratios import write_ratio
from mitrehouse.slices import rings_of
from mitrehouse.standing import stands
from mitrehouse.versions import changes
from mitrehouse.views import view, view_lines
from mitrehouse.words import write_face_name, write_label


class Refused(MitreError):
    """A desk refuses a line for the reason, a string."""

    def __init__(self, reason):
        MitreError.__init__(self, f"the line is refused: {reason}")
        self.reason = reason


def check_none_empty(bodies):
    """Raises Refused if one of a list of bodies is empty."""
    if EMPTY in bodies:
        raise Refused("empty")


def listed(word, parts):
    """Returns the line of a word and of parts, integers or strings."""
    return " ".join([word] + [str(part) for part in parts])


def ratios_line(word, ratios):
    """Returns the line of a word and of ratios."""
    return listed(word, [write_ratio(one) for one in ratios])


def built_lines(body, anew):
    """Returns the lines of a body that was built, and of the features that were made anew."""
    return [f"built {write_ratio(volume(body))} faces {len(faces(body))}", listed("anew", anew)]


def face_lines(body):
    """Returns the lines of the faces of a body."""
    return [f"{index} {face[1]} {write_ratio(face_area(body, face))} {write_label(face[0])}"
            for index, face in enumerate(faces(body))]


def name_lines(body, index):
    """Returns the line of the least name of the face with the index, or of its least twin."""
    if index >= len(faces(body)):
        raise Refused("face")
    name = least_name(body, index)
    return [f"twin {twin(body, index)}" if name is None else "name " + write_face_name(name)]


def borne_lines(body, name):
    """Returns the line of the faces of a body that bear a name."""
    return [listed("borne", bearers(body, name))]


def chosen_lines(body, choice):
    """Returns the line of the faces of a body that have a choice."""
    return [listed("chosen", chosen(body, choice))]


def measure_lines(body):
    """Returns the lines of the measures of a body."""
    check_none_empty([body])
    low, high = extent(body)
    return [f"volume {write_ratio(volume(body))} surface {write_ratio(surface(body))}",
            ratios_line("from", low), ratios_line("to", high), ratios_line("centre", centre(body))]


def thin_lines(body):
    """Returns the lines of the least runs and gaps of a body along the three axes."""
    check_none_empty([body])
    found = []
    for axis in range(3):
        gap = narrowest(body, axis)
        last = "-" if gap is None else write_ratio(gap)
        found.append(f"{axis} {write_ratio(thinnest(body, axis))} {last}")
    return found


def section_lines(body, axis, at):
    """Returns the lines of the section of a body at a ratio along an axis."""
    flat = section(body, axis, at)
    rings = [listed("ring", [f"{write_ratio(u)},{write_ratio(v)}" for u, v in ring]) for ring in rings_of(flat)]
    return ["area " + write_ratio(flat_area(flat))] + rings


def view_rows(body, direction):
    """Returns the lines of the lines of the view of a body from a direction."""
    check_none_empty([body])
    return [ratios_line(word, [at, low, high]) for word, at, low, high in view_lines(view(body, direction))]


def stand_lines(body):
    """Returns the line that tells whether a body stands, tips or falls."""
    check_none_empty([body])
    return [stands(body)]


def make_lines(body):
    """Returns the lines of the directions from which a body is made, and of the axes along which it can be drawn."""
    check_none_empty([body])
    drawn = [axis for axis in range(3) if can_be_drawn(body, axis)]
    return [listed("from", directions) for directions in least_directions(body)] + [listed("drawn", drawn)]


def fate_lines(body, other):
    """Returns the lines of the fates of the faces of a body in another one."""
    return [listed(str(index), told) for index, told in enumerate(fates(body, other))]


def change_line(change):
    """Returns the line of a change between two histories."""
    word, name, worth = change
    if worth is None:
        return f"{word} {name} gone"
    return f"number {name} {write_ratio(worth)}" if word == "number" else f"feature {name}"


def change_lines(history, other):
    """Returns the lines of the changes from a history to another one."""
    return [change_line(change) for change in changes(history, other)]


def clash_lines(items, order):
    """Returns the lines of items that clash, or of names that clash in order."""
    if order:
        return ["clash", listed("order", order)]
    return ["clash"] + [f"{word} {name}" for word, name in items]


def merge_lines(told):
    """Returns the lines of what was told of histories that were merged."""
    if told[0] == "merged":
        return [f"merged {len(told[1][1])}"]
    return ["large"] if told[0] == "large" else clash_lines(told[1], told[2])


def apart_lines(bodies):
    """Returns the lines of how bodies, a dict by their names, come apart or hold each other."""
    check_none_empty(list(bodies.values()))
    # The table has no limit to the boxes of two bodies, so that none is kept here.
    crowd = crowd_of(bodies)
    if crowd.overlap:
        raise Refused("overlap")
    word, rows = ways_apart(crowd)
    if word == "apart":
        return [f"away {name} {direction}" for name, direction in rows]
    return [listed("held", [name] + names) for name, names in rows]
