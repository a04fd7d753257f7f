"""Even shares: what each sender may have a round where nobody has more at the cost of one that has no more."""

from swellways.boundlooks import limit_share, senders_on
from swellways.evenlooks import ROW_SHARE, is_why
from swellways.fractions import less, minus, over
from swellways.places import NAME, PACE, ROAD, SENDERS, WAYS


def least_of(row):
    """The least one of a row of fractions."""
    least = row[0]
    for one in row:
        if less(one, least):
            least = one
    return least


def level_on(plan, way, settled):
    """How much each sender on a way that isn't settled yet has when all have alike and the way is full, or None."""
    remains = (way[PACE], 1)
    rising = 0
    for sender in senders_on(plan, way[NAME]):
        if sender[NAME] in settled:
            remains = minus(remains, settled[sender[NAME]])
        else:
            rising += 1
    return None if rising == 0 else over(remains, (rising, 1))


def bound_of(sender, levels):
    """How far a sender's share may rise, levels being how far those on each way may."""
    return least_of([limit_share(sender)] + [levels[name] for name in sender[ROAD]])


def settle(plan, settled):
    """Settles those senders that meet a bound first when the shares of all that aren't settled rise alike."""
    levels = dict([(way[NAME], level_on(plan, way, settled)) for way in plan[WAYS]])
    rising = [sender for sender in plan[SENDERS] if sender[NAME] not in settled]
    least = least_of([bound_of(sender, levels) for sender in rising])
    for sender in rising:
        if bound_of(sender, levels) == least:
            settled[sender[NAME]] = least


def even_shares(plan):
    """The even shares of a plan, a tuple of (name, share)."""
    settled = {}
    while len(settled) < len(plan[SENDERS]):
        settle(plan, settled)
    return tuple([(sender[NAME], settled[sender[NAME]]) for sender in plan[SENDERS]])


def even(plan):
    """The table of even shares of a plan, with the first why of each sender."""
    shares = even_shares(plan)
    rows = []
    for sender, row in zip(plan[SENDERS], shares):
        whys = [why for why in ("",) + sender[ROAD] if is_why(plan, shares, sender, row[ROW_SHARE], why)]
        rows.append((row[NAME], row[ROW_SHARE], whys[0]))
    return tuple(rows)
