"""Plans: whether a thing is a way, or a plan."""

from swellways.fractions import is_name, is_tuple_of, is_whole_within
from swellways.places import BEAT, BEGIN, GRID, MANY, MARK, NAME, PACE, ROAD, ROOM, RULE, SENDERS, SORT, WAYS
from swellways.rules import is_rule

MOST_GRID = 60
MOST_WAYS = 6
MOST_SENDERS = 8
MOST_PACE = 20
MOST_ROOM = 60
MOST_MARK = 60
MOST_BEAT = 8
MOST_COUNT = 1000000


def is_none_or_within(thing, most):
    """Whether a thing is None, or a whole number from 0 to most."""
    return thing is None or is_whole_within(thing, 0, most)


def is_sort(thing):
    """Whether a thing is a sort of ways."""
    return isinstance(thing, str) and thing in ("line", "turns")


def is_way(thing):
    """Whether a thing is a way."""
    if not is_tuple_of(thing, 5) or not is_name(thing[NAME]):
        return False
    if not is_whole_within(thing[PACE], 1, MOST_PACE) or not is_whole_within(thing[ROOM], 1, MOST_ROOM):
        return False
    return is_none_or_within(thing[MARK], MOST_MARK) and is_sort(thing[SORT])


def are_ways(thing):
    """Whether a thing is a tuple of a plan's ways."""
    if not isinstance(thing, tuple) or not 1 <= len(thing) <= MOST_WAYS:
        return False
    if not all([is_way(way) for way in thing]):
        return False
    return len(set([way[NAME] for way in thing])) == len(thing)


def is_road(thing, names):
    """Whether a thing is a tuple of some of the ways' names, in their order."""
    if not isinstance(thing, tuple) or len(thing) == 0:
        return False
    behind = 0
    for name in thing:
        if not is_name(name) or name not in names[behind:]:
            return False
        behind = names.index(name) + 1
    return True


def is_sender(thing, ways):
    """Whether a thing is a sender that may stand in a plan of these ways."""
    if not is_tuple_of(thing, 6) or not is_name(thing[NAME]):
        return False
    if not is_road(thing[ROAD], [way[NAME] for way in ways]) or not is_whole_within(thing[BEAT], 1, MOST_BEAT):
        return False
    if not is_whole_within(thing[BEGIN], 0, MOST_COUNT) or not is_none_or_within(thing[MANY], MOST_COUNT):
        return False
    return is_rule(thing[RULE])


def are_senders(thing, ways):
    """Whether a thing is a tuple of a plan's senders, the plan having these ways."""
    if not isinstance(thing, tuple) or len(thing) > MOST_SENDERS:
        return False
    if not all([is_sender(sender, ways) for sender in thing]):
        return False
    names = [sender[NAME] for sender in thing]
    return names == sorted(set(names))


def is_plan(thing):
    """Whether a thing is a plan."""
    if not is_tuple_of(thing, 3) or not is_whole_within(thing[GRID], 1, MOST_GRID):
        return False
    return are_ways(thing[WAYS]) and are_senders(thing[SENDERS], thing[WAYS])
