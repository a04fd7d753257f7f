"""States that come again, and what is told by them of any later round."""

from swellways.likes import first_like, like_behind
from swellways.places import NAME, STANDING, STATE_SENDERS, STATE_WAYS, WAYS, WINDOW
from swellways.runs import counted_first, counted_on

# Where the counts begin in what is told of a sender, behind its name and window.
COUNTS = 2


def again(plan, most):
    """The pair (s, t) of the first state that comes again, t at most most; None where none does."""
    like = first_like(plan)
    seen = {}
    for turn in range(most):
        seen[like] = turn
        like = like_behind(plan, like)
        if like in seen:
            return (seen[like], turn + 1)
    return None


def told_of(plan, counted):
    """What is told of a round, by the pair of state and totals ahead of it."""
    state = counted[0]
    senders = [(row[0], kept[WINDOW]) + row[1:] for row, kept in zip(counted[1], state[STATE_SENDERS])]
    ways = [(way[NAME], len(kept[STANDING])) for way, kept in zip(plan[WAYS], state[STATE_WAYS])]
    return (tuple(senders), tuple(ways))


def told_rounds(plan, many):
    """The list of what is told of each round from 0 to many."""
    counted = counted_first(plan)
    told = [told_of(plan, counted)]
    for turn in range(many):
        counted = counted_on(plan, counted)
        told.append(told_of(plan, counted))
    return told


def sender_on(row, first, last, turns):
    """What is told of a sender, so many turns on; each turn brings what came to its counts from first to last."""
    counts = []
    for count, before, behind in zip(row[COUNTS:], first[COUNTS:], last[COUNTS:]):
        counts.append(count + turns * (behind - before))
    return row[:COUNTS] + tuple(counts)


def told_at(plan, found, n):
    """What is told of round n, found being what again tells."""
    if found is None or n < found[1]:
        return told_rounds(plan, n)[n]
    first = found[0]
    length = found[1] - first
    turns = (n - first) // length
    told = told_rounds(plan, found[1])
    here = told[first + (n - first) % length]
    senders = []
    for row, before, behind in zip(here[0], told[first][0], told[found[1]][0]):
        senders.append(sender_on(row, before, behind, turns))
    return (tuple(senders), here[1])
