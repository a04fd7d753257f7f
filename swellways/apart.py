"""Rules beside one another: how far windows come apart, and which rule is the gentler one."""

from swellways.fractions import ceil_of, floor_of, less, times
from swellways.rules import factor_of, is_idle, share_behind, top_of

# The places, in a rule of each word, of what may be less in the gentler one; all else is the same.
MAY_BE_LESS = {"still": (1,), "step": (1, 2, 3, 4), "swell": (1, 2, 3, 4), "heed": (1, 2, 4), "calm": (1, 5)}


def farthest(rule, grid):
    """How many parts of the grid lie from 1 to the cut of top."""
    return floor_of(times(top_of(rule), (grid, 1))) - grid


def apart(rule, grid, share, far, row):
    """How many parts apart two windows of a rule, far apart at first, are at most behind a row of things heard."""
    parts = far
    nearer = share
    for heard in row:
        if is_idle(rule, heard):
            continue
        nearer = share_behind(rule, grid, nearer, heard)
        factor = factor_of(rule, nearer, heard)
        if factor is not None:
            parts = ceil_of(times((parts, 1), factor))
        parts = min(parts, farthest(rule, grid))
    return parts


def gentler(one, other):
    """Whether one rule is gentler than the other."""
    if one[0] != other[0]:
        return False
    for place in range(1, len(one)):
        if place in MAY_BE_LESS[one[0]]:
            if less(other[place], one[place]):
                return False
        elif one[place] != other[place]:
            return False
    return True
