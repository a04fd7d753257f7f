"""Whole numbers, names, and fractions: tuples (top, bottom) in lowest terms, bottom above nought."""

LETTERS = "abcdefghijklmnopqrstuvwxyz"
LONGEST_NAME = 8


def is_whole(thing):
    """Whether a thing is a whole number."""
    # Python counts True and False among the ints.
    return isinstance(thing, int) and not isinstance(thing, bool)


def is_whole_within(thing, least, most):
    """Whether a thing is a whole number from least to most."""
    return is_whole(thing) and least <= thing <= most


def is_tuple_of(thing, many):
    """Whether a thing is a tuple of so many things."""
    return isinstance(thing, tuple) and len(thing) == many


def is_name(thing):
    """Whether a thing is a text of one to eight small letters."""
    if not isinstance(thing, str) or not 1 <= len(thing) <= LONGEST_NAME:
        return False
    return all([sign in LETTERS for sign in thing])


def common_of(one, other):
    """The greatest number that divides both, which are not both nought."""
    divisor = abs(one)
    rest = abs(other)
    while rest > 0:
        behind = divisor % rest
        divisor = rest
        rest = behind
    return divisor


def common_multiple(one, other):
    """The least number from 1 on that both divide, which are above nought."""
    return one // common_of(one, other) * other


def is_fraction(thing):
    """Whether a thing is a fraction."""
    if not is_tuple_of(thing, 2) or not is_whole(thing[0]) or not is_whole(thing[1]):
        return False
    return thing[1] > 0 and common_of(thing[0], thing[1]) == 1


def part(top, bottom):
    """The fraction of two whole numbers, bottom not nought."""
    divisor = common_of(top, bottom)
    if bottom < 0:
        # So the sign goes to the top.
        divisor = -divisor
    return (top // divisor, bottom // divisor)


def plus(one, other):
    """The sum of two fractions."""
    return part(one[0] * other[1] + other[0] * one[1], one[1] * other[1])


def minus(one, other):
    """One fraction less the other."""
    return part(one[0] * other[1] - other[0] * one[1], one[1] * other[1])


def times(one, other):
    """The product of two fractions."""
    return part(one[0] * other[0], one[1] * other[1])


def over(one, other):
    """One fraction divided by the other, which is not nought."""
    return part(one[0] * other[1], one[1] * other[0])


def less(one, other):
    """Whether one fraction is less than the other."""
    return one[0] * other[1] < other[0] * one[1]


def floor_of(one):
    """The greatest whole number not above a fraction."""
    return one[0] // one[1]


def ceil_of(one):
    """The least whole number not below a fraction."""
    return -(-one[0] // one[1])


def cut_by(one, grid):
    """The greatest fraction not above one that is a whole number of parts, 1/grid each."""
    return part(one[0] * grid // one[1], grid)
