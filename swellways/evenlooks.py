"""The look at shares: whether they fit, and whether a table tells the even ones."""

from swellways.boundlooks import limit_share
from swellways.fractions import is_tuple_of, less, plus
from swellways.places import NAME, PACE, ROAD, SENDERS, WAYS
from swellways.rules import NOUGHT, is_fraction_within

# At which place of a row of shares each part stands; its name stands as a sender's does.
ROW_SHARE = 1
ROW_WHY = 2


def shares_on(plan, shares, name):
    """The shares of the senders whose roads have a way."""
    return [row[ROW_SHARE] for sender, row in zip(plan[SENDERS], shares) if name in sender[ROAD]]


def sum_on(plan, shares, name):
    """What the shares of the senders whose roads have a way come to together."""
    total = NOUGHT
    for share in shares_on(plan, shares, name):
        total = plus(total, share)
    return total


def is_row_by(sender, many, thing):
    """Whether a thing is a row of so many parts, a sender's name and a share within its limit first."""
    if not is_tuple_of(thing, many) or not isinstance(thing[NAME], str) or thing[NAME] != sender[NAME]:
        return False
    return is_fraction_within(thing[ROW_SHARE], NOUGHT, limit_share(sender))


def are_rows_by(plan, many, thing):
    """Whether a thing is a tuple of such rows, one for each sender in order."""
    if not is_tuple_of(thing, len(plan[SENDERS])):
        return False
    return all([is_row_by(sender, many, row) for sender, row in zip(plan[SENDERS], thing)])


def fit_ways(plan, shares):
    """Whether what goes over each way by these shares is at most its pace."""
    return not any([less((way[PACE], 1), sum_on(plan, shares, way[NAME])) for way in plan[WAYS]])


def fits(plan, shares):
    """Whether shares fit the ways of a plan and the limits of its senders."""
    return are_rows_by(plan, 2, shares) and fit_ways(plan, shares)


def is_full(plan, shares, name):
    """Whether the shares on a way together are its pace."""
    pace = [way[PACE] for way in plan[WAYS] if way[NAME] == name][0]
    return sum_on(plan, shares, name) == (pace, 1)


def is_why(plan, shares, sender, share, why):
    """Whether a text tells why a sender has no more than its share."""
    if why == "":
        return share == limit_share(sender)
    if why not in sender[ROAD] or not is_full(plan, shares, why):
        return False
    return not any([less(share, other) for other in shares_on(plan, shares, why)])


def shows_even(plan, table):
    """Whether a thing is a table of even shares of a plan."""
    if not are_rows_by(plan, 3, table) or not fit_ways(plan, table):
        return False
    for sender, row in zip(plan[SENDERS], table):
        if not isinstance(row[ROW_WHY], str) or not is_why(plan, table, sender, row[ROW_SHARE], row[ROW_WHY]):
            return False
    return True
