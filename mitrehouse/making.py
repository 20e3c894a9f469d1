"""Making: the directions from which a body is cut out of a box, moulds for it, and what hangs."""

from mitrehouse.bodies import cells_of, facet_places, facets_area, places_volume
from mitrehouse.covers import bits_of, least_choices
from mitrehouse.grids import check_direction, columns_of, next_axes
from mitrehouse.measures import check_full, runs


def reached_from(place, columns):
    """Returns the bits of the directions from which a place outside a body is reached.

    columns are, for the three axes, the dicts from columns to the indexes of the full cells in them.
    """
    found = 0
    for axis in range(3):
        u, v = next_axes(axis)
        full = columns[axis].get((place[u], place[v]), [])
        if not full or place[axis] < full[0]:
            found += 1 << 2 * axis
        if not full or place[axis] > full[-1]:
            found += 1 << 2 * axis + 1
    return found


def reached_places(body):
    """Returns the dict from the places outside a body, within its extent, to the bits from which each is reached."""
    check_full(body)
    full = cells_of(body)
    columns = [columns_of(full, axis) for axis in range(3)]
    xs, ys, zs = body[:3]
    outside = [(i, j, k) for i in range(len(xs) - 1) for j in range(len(ys) - 1) for k in range(len(zs) - 1)
               if (i, j, k) not in full]
    return {place: reached_from(place, columns) for place in outside}


def places_left(body, directions):
    """Returns the list of the places outside a body, within its extent, that are reached from no direction told."""
    for direction in directions:
        check_direction(direction)
    chosen = bits_of(sorted(set(directions)))
    return [place for place, bits in reached_places(body).items() if bits & chosen == 0]


def is_reached(body, directions):
    """Returns True if a list of directions is enough to make a body."""
    return not places_left(body, directions)


def left_over(body, directions):
    """Returns the volume of what a list of directions does not reach."""
    return places_volume(body[:3], places_left(body, directions))


def have_some_of(masks, bits):
    """Returns True if each of a list of integers has one of the bits."""
    return all(mask & bits != 0 for mask in masks)


def least_directions(body):
    """Returns the list of the least choices of directions, shorter ones first, then ascending."""
    different = list({bits: True for bits in reached_places(body).values()})
    return least_choices(6, lambda chosen: have_some_of(different, bits_of(chosen)))


def can_be_drawn(body, axis):
    """Returns True if a body can be drawn along an axis out of two halves of a mould."""
    return all(len(column) == 1 for column in runs(body, axis).values())


def hanging(body):
    """Returns the area of the facets of a body that hang."""
    check_full(body)
    return facets_area(body[:3], 2, [place for place in facet_places(body, 4) if place[2] > 0])
