"""The look at papers that show that a plan is ahead of another one in a count."""

from swellways.again import told_rounds
from swellways.againpapers import shows_again
from swellways.fractions import common_multiple, is_tuple_of
from swellways.places import NAME, SENDERS

# Two plans are settled by what they come to in so many rounds.
MOST_ROUNDS = 5000

# At which place of what is told of a sender each count stands.
COUNTED = {"sent": 2, "taken": 3, "lost": 4}


def counts_of(plan, name, what, many):
    """The list of what is counted of a sender ahead of each round from 0 to many."""
    which = [sender[NAME] for sender in plan[SENDERS]].index(name)
    return [told[0][which][COUNTED[what]] for told in told_rounds(plan, many)]


def counts_by(plan, name, what, found, many):
    """What counts_of tells, by the (s, t) of a state of the plan that comes again."""
    counts = counts_of(plan, name, what, found[1])
    length = found[1] - found[0]
    gain = counts[found[1]] - counts[found[0]]
    for turn in range(found[1] + 1, many + 1):
        counts.append(counts[turn - length] + gain)
    return counts


def span_of(one_found, other_found):
    """The pair (s, p) of two plans, by the (s, t) of each."""
    one_length = one_found[1] - one_found[0]
    other_length = other_found[1] - other_found[0]
    return (max(one_found[0], other_found[0]), common_multiple(one_length, other_length))


def leads_of(one_counts, other_counts):
    """By how many each count of the one row is above that of the other row."""
    return [mine - theirs for mine, theirs in zip(one_counts, other_counts)]


def leads_by(one, other, name, what, one_found, other_found):
    """By how many the one plan is ahead of the other one, ahead of each round from 0 to s + p."""
    span = span_of(one_found, other_found)
    many = span[0] + span[1]
    one_counts = counts_by(one, name, what, one_found, many)
    return leads_of(one_counts, counts_by(other, name, what, other_found, many))


def shows_ahead(one, other, name, what, paper):
    """Whether a thing shows that the one plan is ahead of the other one in what is counted of a sender."""
    if not is_tuple_of(paper, 2) or not shows_again(one, paper[0]) or not shows_again(other, paper[1]):
        return False
    founds = [(half[0], len(half[1]) - 1) for half in paper]
    span = span_of(founds[0], founds[1])
    if span[0] + span[1] > MOST_ROUNDS:
        return False
    leads = leads_by(one, other, name, what, founds[0], founds[1])
    return min(leads) >= 0 and leads[span[0]] <= leads[span[0] + span[1]]
