"""Runs: many rounds of a plan from its begin."""

from swellways.places import DUE, MARKED, NAME, SENDERS, STATE_SENDERS
from swellways.rounds import begun, stepped


def run(plan, many):
    """A pair: the state behind so many rounds, and a list of lists of events, one for each round."""
    state = begun(plan)
    rows = []
    for turn in range(many):
        told = stepped(plan, state)
        state = told[0]
        rows.append(told[1])
    return (state, rows)


def marked_in_round(before, after):
    """How many letters taken in a round were marked, by a sender's parts of the states ahead of it and behind it."""
    # A beat sets the count back to nought ahead of the round's own letters.
    return after[MARKED] if before[DUE] == 0 else after[MARKED] - before[MARKED]


def totals_after(ahead, before, told):
    """The totals one round on: ahead and before are totals and state ahead of it, told is what stepped tells of it."""
    counts = {}
    for word, name, number, way in told[1]:
        counts[(word, name)] = counts.get((word, name), 0) + 1
    rows = []
    for row, old, new in zip(ahead, before[STATE_SENDERS], told[0][STATE_SENDERS]):
        name = row[0]
        sent = row[1] + counts.get(("sent", name), 0)
        taken = row[2] + counts.get(("taken", name), 0)
        lost = row[3] + counts.get(("lost", name), 0)
        rows.append((name, sent, taken, lost, row[4] + marked_in_round(old, new)))
    return tuple(rows)


def counted_first(plan):
    """A pair: state and totals of a plan at first."""
    return (begun(plan), tuple([(sender[NAME], 0, 0, 0, 0) for sender in plan[SENDERS]]))


def counted_on(plan, counted):
    """A pair: state and totals one round on, counted being those ahead of it."""
    told = stepped(plan, counted[0])
    return (told[0], totals_after(counted[1], counted[0], told))


def totals(plan, many):
    """For each sender (name, sent, taken, lost, marked), as they are behind so many rounds."""
    counted = counted_first(plan)
    for turn in range(many):
        counted = counted_on(plan, counted)
    return counted[1]
