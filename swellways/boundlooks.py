"""The look at tables of bounds: what stands in each way, waits there and is lost there at most."""

from swellways.fractions import ceil_of, common_multiple, is_tuple_of, is_whole, less, part, plus
from swellways.places import BEAT, NAME, PACE, ROAD, ROOM, RULE, SENDERS, SORT, WAYS
from swellways.rules import NOUGHT, limit_of

# At which place of a row of bounds each part stands; its name stands as a way's does.
MOST_STAND = 1
LONGEST_WAIT = 2
NONE_LOST = 3


def limit_share(sender):
    """What a sender sends a round at most, taken over many rounds."""
    return part(limit_of(sender[RULE]), sender[BEAT])


def senders_on(plan, name):
    """The senders of a plan whose roads have a way."""
    return [sender for sender in plan[SENDERS] if name in sender[ROAD]]


def load_on(senders):
    """What these senders send a round at most, together."""
    load = NOUGHT
    for sender in senders:
        load = plus(load, limit_share(sender))
    return load


def is_within_pace(way, senders):
    """Whether the load of a way, these being its senders, is at most its pace."""
    return not less((way[PACE], 1), load_on(senders))


def waits_ahead(sender, name, waits):
    """The longest waits of the ways ahead of this one on a sender's road, together, by a dict of waits."""
    road = sender[ROAD]
    return sum([waits[earlier] for earlier in road[:road.index(name)]])


def most_coming(name, senders, waits, n):
    """How many letters of its senders come to a way in any n rounds at most."""
    count = 0
    for sender in senders:
        beats = ceil_of(part(n + waits_ahead(sender, name, waits), sender[BEAT]))
        count += limit_of(sender[RULE]) * beats
    return count


def peak_of(way, senders, waits):
    """The most letters that ever stand in a way whose load is at most its pace, were there room for all."""
    rounds = 1
    for sender in senders:
        # Behind so many rounds as all beats divide no more stand than so many rounds earlier.
        rounds = common_multiple(rounds, sender[BEAT])
    peaks = []
    for n in range(1, rounds + 1):
        peaks.append(most_coming(way[NAME], senders, waits, n) - way[PACE] * (n - 1))
    return max(peaks)


def least_most(way, senders, waits):
    """The least right number for how many letters stand in a way; each greater one is right too."""
    if not is_within_pace(way, senders):
        return way[ROOM]
    return min(way[ROOM], peak_of(way, senders, waits))


def may_lose_none(way, senders, waits):
    """Whether it may be told of a way that none is lost there."""
    return is_within_pace(way, senders) and peak_of(way, senders, waits) <= way[ROOM]


def is_wait(way, senders, waits, most, wait):
    """Whether a number is right for how long a letter waits in a way in which no more than most stand."""
    if len(senders) == 0:
        return True
    stand = min(way[ROOM], most)
    if way[SORT] == "turns":
        # Ahead of each letter of one sender each other sender may have its turn.
        stand = stand * len(senders)
    if wait >= ceil_of(part(stand, way[PACE])) - 1:
        return True
    return most_coming(way[NAME], senders, waits, wait + 1) <= way[PACE] * (wait + 1)


def is_count(thing):
    """Whether a thing is a whole number from 0 on."""
    return is_whole(thing) and thing >= 0


def is_row_of(way, thing):
    """Whether a thing has the form of a way's row of bounds."""
    if not is_tuple_of(thing, 4) or not isinstance(thing[NAME], str) or thing[NAME] != way[NAME]:
        return False
    return is_count(thing[MOST_STAND]) and is_count(thing[LONGEST_WAIT]) and isinstance(thing[NONE_LOST], bool)


def is_right_row(plan, way, waits, row):
    """Whether a row of bounds is right, waits being those of the ways by the table."""
    senders = senders_on(plan, way[NAME])
    if row[MOST_STAND] < least_most(way, senders, waits):
        return False
    if not is_wait(way, senders, waits, row[MOST_STAND], row[LONGEST_WAIT]):
        return False
    return not row[NONE_LOST] or may_lose_none(way, senders, waits)


def shows_bounds(plan, table):
    """Whether a thing is a right table of bounds of a plan."""
    if not is_tuple_of(table, len(plan[WAYS])):
        return False
    if not all([is_row_of(way, row) for way, row in zip(plan[WAYS], table)]):
        return False
    waits = dict([(row[NAME], row[LONGEST_WAIT]) for row in table])
    return all([is_right_row(plan, way, waits, row) for way, row in zip(plan[WAYS], table)])
