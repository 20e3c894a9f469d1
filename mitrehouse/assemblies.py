"""Assemblies: parts put together by mates, and where bodies overlap or touch."""

from itertools import combinations

from mitrehouse.bodies import EMPTY, both_refined, common, facets_area, is_body, moved, turned
from mitrehouse.errors import NotRight, NotThere, is_name
from mitrehouse.faces import is_face_name
from mitrehouse.grids import neighbours
from mitrehouse.histories import plane_of
from mitrehouse.linear import frame, framed_rows, make_row, solution, solve
from mitrehouse.ratios import ONE, ZERO, is_ratio, is_whole, minus, opposite, plus, total
from mitrehouse.settling import make_clash

MOST_PARTS = 12
MOST_MATES = 40
MINUS_ONE = (-1, 1)
SIDES = (".x", ".y", ".z")


def is_part(value):
    """Returns True if any value is a triple of a name, a body that is not empty, and a number of turns."""
    if not isinstance(value, tuple) or len(value) != 3:
        return False
    name, body, turns = value
    return is_name(name) and is_body(body) and body != EMPTY and is_whole(turns) and 0 <= turns <= 3


def is_hold(value):
    """Returns True if any tuple is a mate that holds a part."""
    return len(value) == 5 and is_name(value[1]) and all(is_ratio(one) for one in value[2:])


def is_mate(value):
    """Returns True if any value is a mate."""
    if not isinstance(value, tuple) or not value:
        return False
    if value[0] == "hold":
        return is_hold(value)
    if value[0] != "mate" or len(value) != 6:
        return False
    _, part, face_name, other, other_name, gap = value
    if not is_name(part) or not is_name(other) or part == other:
        return False
    return is_face_name(face_name) and is_face_name(other_name) and is_ratio(gap)


def is_assembly(value):
    """Returns True if any value is an assembly."""
    if not isinstance(value, tuple) or len(value) != 2:
        return False
    parts, mates = value
    if not isinstance(parts, tuple) or not 1 <= len(parts) <= MOST_PARTS or not all(is_part(part) for part in parts):
        return False
    if not all(parts[k][0] < parts[k + 1][0] for k in range(len(parts) - 1)):
        return False
    return isinstance(mates, tuple) and len(mates) <= MOST_MATES and all(is_mate(mate) for mate in mates)


def turned_parts(assembly):
    """Returns the dict from the names of the parts to their turned bodies; raises NotRight if it is no assembly."""
    if not is_assembly(assembly):
        raise NotRight("it is no assembly")
    return {name: turned(body, turns) for name, body, turns in assembly[0]}


def named_parts(mate):
    """Returns the list of the parts that a mate names."""
    return [mate[1]] if mate[0] == "hold" else [mate[1], mate[3]]


def named_planes(mate, bodies):
    """Returns the planes of the two faces that a mate names, or None if there are none."""
    if mate[0] == "hold" or not all(name in bodies for name in named_parts(mate)):
        return None
    try:
        return [plane_of(("on", mate[2]), {}, bodies[mate[1]]), plane_of(("on", mate[4]), {}, bodies[mate[3]])]
    except NotThere:
        return None


def fault_among(bodies, mates, planes):
    """Returns the fault of mates, or None; planes are the list of what named_planes tells of each."""
    for index, mate in enumerate(mates):
        if not all(name in bodies for name in named_parts(mate)):
            return ("part", index)
    for index, mate in enumerate(mates):
        if mate[0] == "mate" and planes[index] is None:
            return ("face", index)
    for index, pair in enumerate(planes):
        if pair is not None and pair[0][0] != pair[1][0]:
            return ("axis", index)
    return None


def fault_of(assembly):
    """Returns the fault of an assembly, or None."""
    bodies = turned_parts(assembly)
    return fault_among(bodies, assembly[1], [named_planes(mate, bodies) for mate in assembly[1]])


def hold_rows(mate):
    """Returns the rows of a mate that holds a part."""
    return [make_row([(mate[1] + side, ONE)], at) for side, at in zip(SIDES, mate[2:])]


def mate_row(mate, planes):
    """Returns the row of a mate of two faces with the planes."""
    (axis, plane, _, side), (_, other_plane, _, _) = planes
    gap = mate[5] if side == 1 else opposite(mate[5])
    return make_row([(mate[3] + SIDES[axis], ONE), (mate[1] + SIDES[axis], MINUS_ONE)],
                    plus(gap, minus(plane, other_plane)))


def rows_among(bodies, mates):
    """Returns the rows of bodies with mates; raises NotRight if they have a fault."""
    planes = [named_planes(mate, bodies) for mate in mates]
    if fault_among(bodies, mates, planes) is not None:
        raise NotRight("the assembly has a fault")
    found = []
    for mate, pair in zip(mates, planes):
        found.extend(hold_rows(mate) if mate[0] == "hold" else [mate_row(mate, pair)])
    return found


def assembly_rows(assembly):
    """Returns the rows of an assembly."""
    bodies = turned_parts(assembly)
    return rows_among(bodies, assembly[1])


def unknowns_for(bodies):
    """Returns the ascending list of the unknowns of parts, a dict by their names."""
    return sorted([name + side for name in bodies for side in SIDES])


def offsets_from(bodies, values):
    """Returns the dict from the names of parts to the triples of their values."""
    return {name: tuple([values[name + side] for side in SIDES]) for name in bodies}


def placing_from(bodies, solved):
    """Returns the placing of parts for what solve tells of their rows."""
    if solved[0] == "none":
        return solved
    offsets = offsets_from(bodies, solved[1])
    if solved[0] == "one":
        return ("one", offsets)
    return ("free", offsets, [offsets_from(bodies, direction) for direction in solved[2]])


def placing_among(bodies, mates):
    """Returns the placing of parts, turned bodies by their names, with the mates."""
    return placing_from(bodies, solve(rows_among(bodies, mates), unknowns_for(bodies)))


def placed(assembly):
    """Returns how an assembly is placed."""
    return placing_among(turned_parts(assembly), assembly[1])


def put_together(assembly):
    """Returns the dict from the names of the parts to the turned and moved bodies."""
    bodies = turned_parts(assembly)
    told = placing_among(bodies, assembly[1])
    if told[0] != "one":
        raise NotThere("the assembly has not just one placing")
    return {name: moved(body, told[1][name]) for name, body in bodies.items()}


def accepts_placing(assembly, told, paper):
    """Returns True if a paper is accepted with what is told of the placing."""
    bodies = turned_parts(assembly)
    rows = rows_among(bodies, assembly[1])
    if told[:1] == ("none",):
        return paper is None and len(told) == 2 and make_clash(rows, told[1])
    if paper is None:
        return False
    reduced = framed_rows(rows, paper)
    return reduced is not None and told == placing_from(bodies, solution(reduced, unknowns_for(bodies)))


def placing_paper(assembly):
    """Returns an accepted paper for the placing of an assembly."""
    bodies = turned_parts(assembly)
    rows, unknowns = rows_among(bodies, assembly[1]), unknowns_for(bodies)
    if solve(rows, unknowns)[0] == "none":
        return None
    return frame(rows, unknowns)


def told_of_pairs(bodies, ask):
    """Returns the list of the triples of two names and what is asked for their bodies, where it is not 0."""
    names = sorted(bodies)
    found = [(name, other, ask(bodies[name], bodies[other])) for name, other in combinations(names, 2)]
    return [told for told in found if told[2] != ZERO]


def overlaps(bodies):
    """Returns the list of the triples of two names and their common volume, for all bodies that overlap."""
    return told_of_pairs(bodies, common)


def contacts(bodies):
    """Returns the list of the triples of two names and their contact, where it is above 0."""
    return told_of_pairs(bodies, contact)


def contact(body, other):
    """Returns the area in which facets of two bodies lie on each other, looking in opposite directions."""
    cuts, ours, theirs = both_refined(body, other)
    found = []
    for direction in range(6):
        met = []
        for place, labels in ours.items():
            beyond = neighbours(place)[direction]
            if labels[direction] is not None and beyond in theirs and theirs[beyond][direction ^ 1] is not None:
                met.append(place)
        found.append(facets_area(cuts, direction // 2, met))
    return total(found)
