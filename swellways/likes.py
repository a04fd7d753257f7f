"""Likes: states in which each sender's numbers are counted from its next new letter."""

from swellways.places import AGAIN, COMING, GOOD, LAST, LEFT, LOST, NAME, NEXT, NUMBER, STANDING
from swellways.places import STATE_SENDERS, STATE_WAYS
from swellways.rounds import begun, stepped


def letters_lowered(letters, firsts):
    """Letters with their sender's next, told by firsts, taken from their numbers."""
    lowered = []
    for letter in letters:
        number = letter[NUMBER] - firsts[letter[NAME]]
        lowered.append(letter[:NUMBER] + (number,) + letter[NUMBER + 1:])
    return tuple(lowered)


def sender_lowered(kept):
    """A sender's part of a state with its next taken from all its numbers."""
    again = tuple([number - kept[NEXT] for number in kept[AGAIN]])
    lost = tuple([number - kept[NEXT] for number in kept[LOST]])
    return kept[:NEXT] + (0, kept[LEFT], again, lost) + kept[GOOD:]


def like_of(state):
    """The like of a state."""
    firsts = dict([(kept[NAME], kept[NEXT]) for kept in state[STATE_SENDERS]])
    ways = []
    for kept in state[STATE_WAYS]:
        ways.append((letters_lowered(kept[COMING], firsts), letters_lowered(kept[STANDING], firsts), kept[LAST]))
    return (tuple(ways), tuple([sender_lowered(kept) for kept in state[STATE_SENDERS]]))


def first_like(plan):
    """The like of the state at the begin of a plan."""
    return like_of(begun(plan))


def like_behind(plan, like):
    """The like of what a round makes of a like."""
    return like_of(stepped(plan, like)[0])
