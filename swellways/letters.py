"""Letters: where each one is in a state, and its story in a plan."""

from swellways.places import AGAIN, COMING, LOST, NAME, NEXT, NUMBER, STANDING, STATE_SENDERS, STATE_WAYS, WAYS
from swellways.runs import run


def place_among(letters, name, number):
    """At which place of these letters a sender's letter of this number is, or None."""
    for place, letter in enumerate(letters):
        if letter[NAME] == name and letter[NUMBER] == number:
            return place
    return None


def place_in_ways(plan, state, name, number):
    """Where a letter stands, or to where it comes; None where it is in no way."""
    for way, kept in zip(plan[WAYS], state[STATE_WAYS]):
        for word, letters in (("stands", kept[STANDING]), ("comes", kept[COMING])):
            place = place_among(letters, name, number)
            if place is not None:
                return (word, way[NAME], place)
    return None


def place_of(plan, state, name, number):
    """Where a sender's letter of this number is in a state."""
    kept = [one for one in state[STATE_SENDERS] if one[NAME] == name][0]
    if number >= kept[NEXT]:
        return ("new",)
    found = place_in_ways(plan, state, name, number)
    if found is not None:
        return found
    if number in kept[LOST]:
        return ("lost",)
    return ("again",) if number in kept[AGAIN] else ("taken",)


def story(plan, name, number, many):
    """The list of (round, word, way) of a letter's events in the first so many rounds of a plan."""
    told = []
    for turn, events in enumerate(run(plan, many)[1]):
        for word, owner, own_number, way in events:
            if owner == name and own_number == number:
                told.append((turn, word, way))
    return told
