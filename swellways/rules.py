"""Rules: what they are, and how a sender's window and share go by them."""

from swellways.fractions import cut_by, floor_of, is_fraction, is_whole_within, less, minus, part, plus, times

NOUGHT = (0, 1)
HALF = (1, 2)
ONE = (1, 1)
MOST = 60

LENGTHS = {"still": 2, "step": 5, "swell": 5, "heed": 5, "calm": 6}


def top_of(rule):
    """The greatest window of a rule; of still, its only one."""
    return rule[len(rule) - 1]


def is_fraction_within(thing, least, most):
    """Whether a thing is a fraction from least to most."""
    return is_fraction(thing) and not less(thing, least) and not less(most, thing)


def is_fraction_above(thing, bound, most):
    """Whether a thing is a fraction above the bound and at most most."""
    return is_fraction_within(thing, bound, most) and less(bound, thing)


def is_growing(thing):
    """Whether w, up and top of a thing, of any word but still, keep to their bounds."""
    most = (MOST, 1)
    if not is_fraction_within(top_of(thing), ONE, most):
        return False
    least = ONE if thing[0] == "swell" else NOUGHT
    return is_fraction_within(thing[1], ONE, top_of(thing)) and is_fraction_above(thing[2], least, most)


def is_calm_span(low, high):
    """Whether two things are a low and a high of calm."""
    return is_whole_within(high, 0, MOST) and is_whole_within(low, 0, high)


def is_rule(thing):
    """Whether a thing is a rule."""
    if not isinstance(thing, tuple) or len(thing) == 0 or not isinstance(thing[0], str):
        return False
    word = thing[0]
    if word not in LENGTHS or len(thing) != LENGTHS[word]:
        return False
    if word == "still":
        return is_fraction_within(thing[1], ONE, (MOST, 1))
    if not is_growing(thing):
        return False
    if word == "calm":
        return is_calm_span(thing[3], thing[4])
    if word == "heed":
        return is_fraction_above(thing[3], NOUGHT, ONE)
    return is_fraction_above(thing[3], NOUGHT, ONE) and less(thing[3], ONE)


def limit_of(rule):
    """The most letters that a sender of this rule ever has under way."""
    return floor_of(top_of(rule))


def begun_by(rule, grid):
    """Window and share at first."""
    return (cut_by(rule[1], grid), NOUGHT)


def is_idle(rule, heard):
    """Whether what is heard changes nothing."""
    return rule[0] == "still" or heard[0] + heard[1] + heard[2] == 0


def share_behind(rule, grid, share, heard):
    """The share behind what is heard, which is not idle."""
    if rule[0] != "heed":
        return share
    bad = heard[1] + heard[2]
    nearer = times(rule[3], minus(part(bad, heard[0] + bad), share))
    return cut_by(plus(share, nearer), grid)


def factor_of(rule, share, heard):
    """What the window is multiplied by at what is heard, share being the new one; None where it is not."""
    if rule[0] == "calm":
        return HALF if heard[2] > 0 else None
    if heard[1] + heard[2] == 0:
        return rule[2] if rule[0] == "swell" else None
    if rule[0] == "heed":
        return minus(ONE, times(HALF, share))
    return rule[3]


def moved(rule, window, heard):
    """The window behind what is heard where it is not multiplied."""
    if rule[0] != "calm" or heard[3] < rule[3]:
        return plus(window, rule[2])
    if heard[3] > rule[4]:
        return minus(window, rule[2])
    return window


def held(rule, grid, window):
    """The window made no less than 1, no greater than top, and cut by the grid."""
    if less(window, ONE):
        return ONE
    if less(top_of(rule), window):
        return cut_by(top_of(rule), grid)
    return cut_by(window, grid)


def heard_by(rule, grid, window, share, heard):
    """Window and share behind what is heard."""
    if is_idle(rule, heard):
        return (window, share)
    nearer = share_behind(rule, grid, share, heard)
    factor = factor_of(rule, nearer, heard)
    if factor is None:
        return (held(rule, grid, moved(rule, window, heard)), nearer)
    return (held(rule, grid, times(window, factor)), nearer)
