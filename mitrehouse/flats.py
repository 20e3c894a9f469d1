"""Flats: cells between cuts along two axes, without needless cuts."""

from mitrehouse.grids import without_needless
from mitrehouse.ratios import ONE, ZERO


def thin_pairs(us, vs, cells):
    """Returns the needed cuts of both axes, and the dict of the cells between them.

    cells is a dict from pairs (i, j) to what is told of the cells; rows are the same if this is the same in both.
    """
    if not cells:
        return ((), (), {})
    # A flat is one layer of boxes, in which what is told stands like a label of the one axis that has no cuts.
    layer = {(i, j, 0): (None, None, None, None, told, None) for (i, j), told in cells.items()}
    cuts, left = without_needless((us, vs, (ZERO, ONE)), layer)
    return (cuts[0], cuts[1], {(i, j): labels[4] for (i, j, _), labels in left.items()})
