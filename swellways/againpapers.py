"""Papers of states that come again, and the look at them."""

from swellways.fractions import is_tuple_of, is_whole, is_whole_within
from swellways.likes import first_like, like_behind


def again_paper(plan, found):
    """The paper of a state that comes again, found being its (s, t)."""
    likes = [first_like(plan)]
    for turn in range(found[1]):
        likes.append(like_behind(plan, likes[turn]))
    return (found[0], tuple(likes))


def is_same(known, thing):
    """Whether a thing is the same as a known one of tuples, texts, whole numbers and None, in kind too."""
    # By == alone True would pass for 1.
    if known is None:
        return thing is None
    if isinstance(known, tuple):
        if not is_tuple_of(thing, len(known)):
            return False
        return all([is_same(part, other) for part, other in zip(known, thing)])
    if isinstance(known, str):
        return isinstance(thing, str) and thing == known
    return is_whole(thing) and thing == known


def shows_again(plan, paper):
    """Whether a thing is a paper of a state of the plan that comes again."""
    if not is_tuple_of(paper, 2) or not isinstance(paper[1], tuple):
        return False
    first = paper[0]
    likes = paper[1]
    if not is_whole_within(first, 0, len(likes) - 2):
        return False
    known = first_like(plan)
    begin = known
    for place, like in enumerate(likes):
        if place > 0:
            known = like_behind(plan, known)
        if place == first:
            begin = known
        if not is_same(known, like):
            return False
    return known == begin
