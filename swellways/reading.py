"""Texts read: plans, and the things in them, from what is written; None where something isn't so written."""

from swellways.errors import NoText
from swellways.fractions import is_fraction, is_name
from swellways.plans import is_plan, is_sort

FIGURES = "0123456789"
MOST_FIGURES = 9

# The kinds of the numbers behind a rule's word: a fraction or a whole one.
KINDS = {
    "still": ("fraction",),
    "step": ("fraction", "fraction", "fraction", "fraction"),
    "swell": ("fraction", "fraction", "fraction", "fraction"),
    "heed": ("fraction", "fraction", "fraction", "fraction"),
    "calm": ("fraction", "fraction", "whole", "whole", "fraction"),
}


def is_number(word):
    """Whether a word writes a whole number."""
    if not 1 <= len(word) <= MOST_FIGURES or not all([sign in FIGURES for sign in word]):
        return False
    return word == "0" or word[0] != "0"


def is_number_or_none(word):
    """Whether a word writes a whole number or None."""
    return word == "-" or is_number(word)


def number_or_none(word):
    """The whole number, or the None, that a word writes."""
    return None if word == "-" else int(word)


def read_number(word):
    """The whole number that a word writes."""
    return int(word) if is_number(word) else None


def read_fraction(word):
    """The fraction that a word writes."""
    if is_number(word):
        return (int(word), 1)
    halves = word.split("/")
    if len(halves) != 2 or not is_number(halves[0]) or not is_number(halves[1]):
        return None
    one = (int(halves[0]), int(halves[1]))
    # A bottom of 1 is left out.
    return one if is_fraction(one) and one[1] != 1 else None


def read_rule(words):
    """What is written as a rule by its word and so many numbers; it need not be one."""
    if len(words) == 0 or words[0] not in KINDS or len(words) != len(KINDS[words[0]]) + 1:
        return None
    parts = [words[0]]
    for kind, word in zip(KINDS[words[0]], words[1:]):
        number = read_fraction(word) if kind == "fraction" else read_number(word)
        if number is None:
            return None
        parts.append(number)
    return tuple(parts)


def read_way(words):
    """What is written as a way by the words behind its first one; it need not be one."""
    if len(words) != 5 or not is_name(words[0]) or not is_sort(words[4]):
        return None
    if not is_number(words[1]) or not is_number(words[2]) or not is_number_or_none(words[3]):
        return None
    return (words[0], int(words[1]), int(words[2]), number_or_none(words[3]), words[4])


def read_sender(words):
    """What is written as a sender by the words behind its first one; it need not be one."""
    rule = read_rule(words[5:])
    if rule is None:
        return None
    road = words[1].split(",")
    if not is_name(words[0]) or not all([is_name(name) for name in road]):
        return None
    if not is_number(words[2]) or not is_number(words[3]) or not is_number_or_none(words[4]):
        return None
    return (words[0], tuple(road), int(words[2]), int(words[3]), number_or_none(words[4]), rule)


def read_grid(words):
    """The grid that a row writes."""
    return read_number(words[1]) if len(words) == 2 and words[0] == "grid" else None


def read_plan(text):
    """The plan that a text writes; what isn't so written is refused."""
    if not isinstance(text, str):
        raise NoText(0)
    rows = [row.split(" ") for row in text.split("\n")]
    grid = read_grid(rows[0])
    if grid is None:
        raise NoText(0)
    ways = []
    senders = []
    for place in range(1, len(rows)):
        words = rows[place]
        one = None
        if words[0] == "way" and len(senders) == 0:
            one = read_way(words[1:])
            ways.append(one)
        elif words[0] == "sender" and len(ways) > 0:
            one = read_sender(words[1:])
            senders.append(one)
        if one is None:
            raise NoText(place)
    plan = (grid, tuple(ways), tuple(senders))
    if not is_plan(plan):
        raise NoText(len(rows))
    return plan
