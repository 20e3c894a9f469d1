"""Ratios: pairs of integers without a common divisor, the second one at least 1."""

from math import gcd, isqrt, lcm

from mitrehouse.errors import DIGITS, NotNumber

ZERO = (0, 1)
ONE = (1, 1)
MOST_DIGITS = 30
CHUNK_DIGITS = 64
CHUNK = 10 ** 64


def is_whole(value):
    """Returns True if any value is an integer; True and False are none."""
    return isinstance(value, int) and not isinstance(value, bool)


def ratio(above, below=1):
    """Returns the ratio of two integers."""
    if below == 0:
        raise NotNumber("nothing is divided by 0")
    common = gcd(above, below)
    if below < 0:
        common = -common
    return (above // common, below // common)


def is_ratio(value):
    """Returns True if any value is a ratio."""
    if not isinstance(value, tuple) or len(value) != 2:
        return False
    above, below = value
    return is_whole(above) and is_whole(below) and below >= 1 and gcd(above, below) == 1


def plus(one, other):
    """Returns the sum of two ratios."""
    if one[1] == 1 and other[1] == 1:
        return (one[0] + other[0], 1)
    return ratio(one[0] * other[1] + other[0] * one[1], one[1] * other[1])


def minus(one, other):
    """Returns the difference of two ratios."""
    return plus(one, opposite(other))


def times(one, other):
    """Returns the product of two ratios."""
    if one[1] == 1 and other[1] == 1:
        return (one[0] * other[0], 1)
    return ratio(one[0] * other[0], one[1] * other[1])


def over(one, other):
    """Returns the quotient of two ratios."""
    return ratio(one[0] * other[1], one[1] * other[0])


def opposite(one):
    """Returns 0 minus a ratio."""
    return (-one[0], one[1])


def total(ratios):
    """Returns the sum of a list of ratios."""
    found = ZERO
    for one in ratios:
        found = plus(found, one)
    return found


def sign(one):
    """Returns -1, 0 or 1, as a ratio is below, at or above 0."""
    if one[0] < 0:
        return -1
    return 1 if one[0] > 0 else 0


def is_less(one, other):
    """Returns True if the first ratio is less than the second one."""
    return one[0] * other[1] < other[0] * one[1]


def common_below(ratios):
    """Returns the least integer above 0 by which all ratios of a list become integers."""
    found = 1
    for one in ratios:
        found = lcm(found, one[1])
    return found


def ascending(ratios):
    """Returns the list of the different ratios of a list, ascending by worth."""
    different = list({one: True for one in ratios})
    scale = common_below(different)
    return sorted(different, key=lambda one: one[0] * (scale // one[1]))


def least(one, other):
    """Returns the lesser one of two ratios."""
    return other if is_less(other, one) else one


def greatest(one, other):
    """Returns the greater one of two ratios."""
    return other if is_less(one, other) else one


def root(one):
    """Returns the ratio of at least 0 of which a ratio is the square, or None."""
    if one[0] < 0:
        return None
    # Above and below have no common divisor, so each has to be a square by itself.
    above, below = isqrt(one[0]), isqrt(one[1])
    if above * above != one[0] or below * below != one[1]:
        return None
    return (above, below)


def zeros(a, b, c):
    """Returns the ascending list of the different ratios t for which a * t * t + b * t + c is 0."""
    if a == ZERO:
        if b == ZERO:
            raise NotNumber("a and b are both 0")
        return [opposite(over(c, b))]
    spread = root(minus(times(b, b), times((4, 1), times(a, c))))
    if spread is None:
        return []
    twice = times((2, 1), a)
    return ascending([over(minus(opposite(spread), b), twice), over(minus(spread, b), twice)])


def write_whole(number):
    """Returns the decimal digits of an integer of at least 0."""
    # Python's own str refuses integers of more than 4300 digits, so they are written in parts.
    parts = []
    while number >= CHUNK:
        number, rest = divmod(number, CHUNK)
        parts.append(str(rest).zfill(CHUNK_DIGITS))
    parts.append(str(number))
    return "".join(parts[::-1])


def write_ratio(one):
    """Returns the string of a ratio."""
    front = "-" if one[0] < 0 else ""
    back = "" if one[1] == 1 else "/" + write_whole(one[1])
    return front + write_whole(abs(one[0])) + back


def are_digits(text):
    """Returns True if a string is 1 to 30 digits from 0 to 9."""
    return 1 <= len(text) <= MOST_DIGITS and all(digit in DIGITS for digit in text)


def read_ratio(word):
    """Returns the ratio of which a string is the writing."""
    above, slash, below = word.partition("/")
    bare = above[1:] if above.startswith("-") else above
    if not are_digits(bare) or slash and not are_digits(below):
        raise NotNumber("a ratio is written with digits alone")
    found = ratio(int(above), int(below) if slash else 1)
    if write_ratio(found) != word:
        raise NotNumber("each ratio is written in just one way")
    return found
