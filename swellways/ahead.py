"""Plans beside one another: whether one is ahead of the other one in what is counted of a sender."""

from swellways.again import again
from swellways.againpapers import again_paper
from swellways.aheadlooks import MOST_ROUNDS, counts_of, leads_by, leads_of, span_of


def first_below(leads):
    """The first place at which a lead is below nought, or None."""
    for place, lead in enumerate(leads):
        if lead < 0:
            return place
    return None


def first_failure(leads, span):
    """The least round at which the one plan has fewer, or None where it never has; leads are those to s + p."""
    early = first_below(leads)
    if early is not None:
        return early
    first = span[0]
    length = span[1]
    loss = leads[first] - leads[first + length]
    if loss <= 0:
        return None
    # Each turn takes the loss from each lead, so even the greatest lead is used up in the end.
    return min([place + (leads[place] // loss + 1) * length for place in range(first, first + length)])


def settled(one, other, name, what, founds):
    """What ahead tells of two plans that come again, founds being the (s, t) of each."""
    leads = leads_by(one, other, name, what, founds[0], founds[1])
    failure = first_failure(leads, span_of(founds[0], founds[1]))
    if failure is not None:
        return ("fails", failure)
    return ("holds", (again_paper(one, founds[0]), again_paper(other, founds[1])))


def is_settled(founds):
    """Whether both plans come again, and soon enough that this settles which is ahead."""
    if founds[0] is None or founds[1] is None:
        return False
    span = span_of(founds[0], founds[1])
    return span[0] + span[1] <= MOST_ROUNDS


def ahead(one, other, name, what, most):
    """Whether the one plan is ahead of the other one in what is counted of a sender, as far as rounds to most tell."""
    founds = (again(one, most), again(other, most))
    if is_settled(founds):
        return settled(one, other, name, what, founds)
    failure = first_below(leads_of(counts_of(one, name, what, most), counts_of(other, name, what, most)))
    return None if failure is None else ("fails", failure)
