"""Mirrors: bodies mirrored along an axis, and the mirrors and turns that leave a body as it is."""

from mitrehouse.bodies import extent, moved, turned, unlabelled
from mitrehouse.grids import check_axis
from mitrehouse.ratios import ZERO, minus, opposite, over, plus

TWO = (2, 1)


def mirrored_cell(cell, axis, last):
    """Returns a cell mirrored along an axis, last being the index of the last layer along it."""
    place, labels = cell
    low, high = labels[2 * axis], labels[2 * axis + 1]
    return (place[:axis] + (last - place[axis],) + place[axis + 1:],
            labels[:2 * axis] + (high, low) + labels[2 * axis + 2:])


def mirrored(body, axis):
    """Returns the body mirrored along an axis."""
    check_axis(axis)
    cuts = tuple([opposite(one) for one in body[axis][::-1]])
    cells = sorted([mirrored_cell(cell, axis, len(cuts) - 2) for cell in body[3]])
    return body[:axis] + (cuts,) + body[axis + 1:3] + (tuple(cells),)


def mirrors(body):
    """Returns the list of the mirrors of a body, pairs of an axis and a ratio; raises NotThere if it is empty."""
    plain = unlabelled(body)
    low, high = extent(plain)
    found = []
    for axis in range(3):
        twice = plus(low[axis], high[axis])
        by = tuple([twice if along == axis else ZERO for along in range(3)])
        if moved(mirrored(plain, axis), by) == plain:
            found.append((axis, over(twice, TWO)))
    return found


def spins(body):
    """Returns the ascending list of the turns after which a body, moved, has the same places full.

    Raises NotThere, as extent does, if the body is empty.
    """
    plain = unlabelled(body)
    found = []
    for turns in range(1, 4):
        spun = turned(plain, turns)
        by = tuple([minus(here, there) for here, there in zip(extent(plain)[0], extent(spun)[0])])
        if moved(spun, by) == plain:
            found.append(turns)
    return found
