"""Bodies, sketches and histories that several tests build upon."""

from fractions import Fraction

from mitrehouse.bodies import thin
from mitrehouse.ratios import ratio

STEPS = ((-1, 0, 0), (1, 0, 0), (0, -1, 0), (0, 1, 0), (0, 0, -1), (0, 0, 1))
RINGS = (("a", "b", "c", "d"),)
ZERO = ("num", (0, 1))
ONE = ("num", (1, 1))
TWO = ("num", (2, 1))


def num(above, below=1):
    return ("num", ratio(above, below))


def fraction(one):
    return Fraction(one[0], one[1])


def as_ratio(one):
    return ratio(one.numerator, one.denominator)


def beside(place, direction):
    step = STEPS[direction]
    return (place[0] + step[0], place[1] + step[1], place[2] + step[2])


def label_of(name, direction):
    return (name, "s" + str(direction))


def labelled_cells(places, label):
    """Returns the cells of places; label tells the label of a place's facet in a direction."""
    there = set(places)
    return {place: tuple(None if beside(place, d) in there else label(place, d) for d in range(6))
            for place in places}


def grid_body(places, name="f", cuts=None):
    """Returns the thin body of places between integer cuts, or the told ones, with six labels."""
    if cuts is None:
        cuts = [tuple(ratio(at) for at in range(0, 2 + max([p[axis] for p in places], default=0)))
                for axis in range(3)]
    return thin(cuts[0], cuts[1], cuts[2], labelled_cells(places, lambda place, d: label_of(name, d)))


def block(low, high, name="f"):
    """Returns the body of one box between two triples of integers or ratios."""
    ends = [tuple(one if isinstance(one, tuple) else ratio(one) for one in (low[axis], high[axis]))
            for axis in range(3)]
    return thin(ends[0], ends[1], ends[2], {(0, 0, 0): tuple(label_of(name, d) for d in range(6))})


def box_sketch(long, wide, x=ZERO, y=ZERO):
    """Returns the sketch of a box with the corner a at (x, y)."""
    return (("a", "b", "c", "d"), (("fix", "a", x, y), ("level", "a", "b"), ("across", "a", "b", long),
                                   ("plumb", "b", "c"), ("up", "b", "c", wide), ("level", "c", "d"),
                                   ("plumb", "d", "a")))


def feature(name, deed="join", place=("base", 2, ZERO), sketch=None, pick=0, rings=RINGS, low=ZERO, high=ONE):
    """Returns a feature, that of a box of 4 by 2 if nothing else is told."""
    return (name, deed, place, sketch or box_sketch(num(4), TWO), pick, rings, low, high)


def on(name, side, *marks):
    """Returns the place on the face with the label and the marks."""
    return ("on", ((name, side), tuple(sorted(marks))))
