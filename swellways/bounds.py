"""Bounds: the least table of what stands in each way, waits there and is lost there at most."""

from swellways.boundlooks import is_wait, least_most, may_lose_none, senders_on
from swellways.places import NAME, WAYS


def least_wait(way, senders, waits, most):
    """The least right number for how long a letter waits in a way in which no more than most stand."""
    wait = 0
    while not is_wait(way, senders, waits, most, wait):
        wait += 1
    return wait


def bounds(plan):
    """The table of bounds of a plan of which each row, in order, is the least one."""
    waits = {}
    rows = []
    for way in plan[WAYS]:
        senders = senders_on(plan, way[NAME])
        most = least_most(way, senders, waits)
        wait = least_wait(way, senders, waits, most)
        rows.append((way[NAME], most, wait, may_lose_none(way, senders, waits)))
        waits[way[NAME]] = wait
    return tuple(rows)
