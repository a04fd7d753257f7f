"""What is taken of each sender per round, once a state has come again."""

from swellways.again import told_rounds
from swellways.fractions import part
from swellways.places import NAME

# At which place of what is told of a sender it stands how many of its letters were taken.
TAKEN = 3


def rest(plan, found):
    """Each sender's share at rest, a tuple of (name, fraction), found being the (s, t) of a state that comes again."""
    told = told_rounds(plan, found[1])
    rows = []
    for before, behind in zip(told[found[0]][0], told[found[1]][0]):
        rows.append((before[NAME], part(behind[TAKEN] - before[TAKEN], found[1] - found[0])))
    return tuple(rows)
