"""The document's rules told once more, in another way: by Python's own fractions, letter by letter, and with
changing lists. What the program tells is held against it."""

from fractions import Fraction
from math import floor


def of(pair):
    return Fraction(pair[0], pair[1])


def pair_of(number):
    return (number.numerator, number.denominator)


def cut(number, grid):
    return Fraction(floor(number * grid), grid)


def top_of(rule):
    return of(rule[1]) if rule[0] == "still" else of(rule[-1])


def wanted(rule, grid, window, share, heard):
    """The window ahead of its bounds, the share, and what the window was multiplied by (or None)."""
    good, marked, lost, wait = heard
    bad = marked + lost
    word = rule[0]
    if word == "step":
        if bad:
            return window * of(rule[3]), share, of(rule[3])
        return window + of(rule[2]), share, None
    if word == "swell":
        by = of(rule[3]) if bad else of(rule[2])
        return window * by, share, by
    if word == "heed":
        share = cut(share + of(rule[3]) * (Fraction(bad, good + bad) - share), grid)
        if bad:
            return window * (1 - share / 2), share, 1 - share / 2
        return window + of(rule[2]), share, None
    if lost:
        return window / 2, share, Fraction(1, 2)
    if wait < rule[3]:
        return window + of(rule[2]), share, None
    if wait > rule[4]:
        return window - of(rule[2]), share, None
    return window, share, None


def heard_by(rule, grid, window, share, heard):
    """Window and share, as Python's fractions, behind what is heard."""
    if rule[0] == "still" or not any(heard[:3]):
        return window, share
    window, share, by = wanted(rule, grid, window, share, heard)
    return cut(min(max(window, 1), top_of(rule)), grid), share
