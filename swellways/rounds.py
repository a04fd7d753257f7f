"""Rounds: the state at first, and what one round makes of a state."""

from swellways.fractions import floor_of
from swellways.places import AGAIN, AGE, BEAT, BEGIN, COMING, DUE, GOOD, GRID, HOP, IS_MARKED, LAST, LEFT
from swellways.places import LOST, MANY, MARKED, NAME, NEXT, NUMBER, ROAD, RULE, SENDERS, SHARE, STANDING
from swellways.places import STATE_SENDERS, STATE_WAYS, WAIT, WAYS, WINDOW
from swellways.rules import begun_by, heard_by
from swellways.ways import let_out, taken_in


def begun_sender(grid, sender):
    """A sender's part of the state at first."""
    first = begun_by(sender[RULE], grid)
    return (sender[NAME], sender[BEGIN], first[0], first[1], 0, sender[MANY], (), (), 0, 0, 0)


def begun(plan):
    """The state of a plan at first."""
    ways = tuple([((), (), "") for way in plan[WAYS]])
    return (ways, tuple([begun_sender(plan[GRID], sender) for sender in plan[SENDERS]]))


def under_way(state, name):
    """How many letters of a sender come or stand in ways."""
    count = 0
    for way in state[STATE_WAYS]:
        count += len([letter for letter in way[COMING] + way[STANDING] if letter[NAME] == name])
    return count


def new_ones(kept, places):
    """How many new letters a sender sends that has so many places for them."""
    return places if kept[LEFT] is None else min(places, kept[LEFT])


def sent_off(kept, places):
    """A pair: a sender's part of the state once it has filled so many places, and the numbers that it sends."""
    old = kept[AGAIN][:places]
    count = new_ones(kept, places - len(old))
    first = kept[NEXT]
    left = None if kept[LEFT] is None else kept[LEFT] - count
    filled = kept[:NEXT] + (first + count, left, kept[AGAIN][len(old):]) + kept[LOST:]
    return (filled, old + tuple(range(first, first + count)))


def beaten(grid, sender, kept, state):
    """A pair: a sender's part of the state behind its beat, if it has one, and the numbers that it sends."""
    if kept[DUE] != 0:
        return (kept, ())
    heard = (kept[GOOD], kept[MARKED], len(kept[LOST]), kept[WAIT])
    told = heard_by(sender[RULE], grid, kept[WINDOW], kept[SHARE], heard)
    again = tuple(sorted(kept[AGAIN] + kept[LOST]))
    ready = (kept[NAME], kept[DUE], told[0], told[1], kept[NEXT], kept[LEFT], again, (), 0, 0, 0)
    return sent_off(ready, max(0, floor_of(told[0]) - under_way(state, kept[NAME])))


def sent_in_order(senders, numbers):
    """The letters sent, in order, each in a pair behind the first way of its road."""
    sent = []
    for turn in range(max([len(own) for own in numbers], default=0)):
        for sender, own in zip(senders, numbers):
            if turn < len(own):
                sent.append((sender[ROAD][0], (sender[NAME], own[turn], 0, 0, 0)))
    return sent


def passed(way, names, kept, sent):
    """What goes through a way in a round: (came, lost, out, standing, last)."""
    came = kept[COMING] + tuple([letter for first, letter in sent if first == way[NAME]])
    held = taken_in(way, kept[STANDING], came)
    told = let_out(way, names, held[0], kept[LAST])
    return (came, held[1], told[0], told[1], told[2])


def way_behind(roads, letter):
    """The next way of a letter's road, or None where it is in the last one."""
    road = roads[letter[NAME]]
    return road[letter[HOP] + 1] if letter[HOP] + 1 < len(road) else None


def events_of(way, roads, went):
    """The events of a round in one way."""
    events = []
    for place, letter in enumerate(went[0]):
        # Nothing leaves while letters come in, so those that found room came ahead of those that found none.
        word = "in" if place < len(went[0]) - len(went[1]) else "lost"
        events.append((word, letter[NAME], letter[NUMBER], way[NAME]))
    for letter in went[2]:
        word = "taken" if way_behind(roads, letter) is None else "out"
        events.append((word, letter[NAME], letter[NUMBER], way[NAME]))
    return events


def aged(letter, hops):
    """The letter one round on, and so many ways on."""
    return (letter[NAME], letter[NUMBER], letter[AGE] + 1, letter[HOP] + hops, letter[IS_MARKED])


def way_after(way, roads, went, out):
    """A way's part of the state behind a round, out being all letters that were let out, in the order of the ways."""
    coming = [aged(letter, 1) for letter in out if way_behind(roads, letter) == way[NAME]]
    return (tuple(coming), tuple([aged(letter, 0) for letter in went[3]]), went[4])


def due_after(sender, due):
    """How many rounds there are until a sender's next beat, one round on."""
    if due is None:
        return None
    return sender[BEAT] - 1 if due == 0 else due - 1


def sender_after(sender, kept, lost, taken):
    """A sender's part of the state behind a round in which these letters were lost and taken, its own among them."""
    numbers = [letter[NUMBER] for letter in lost if letter[NAME] == sender[NAME]]
    own = [letter for letter in taken if letter[NAME] == sender[NAME]]
    marked = sum([letter[IS_MARKED] for letter in own])
    wait = max([letter[AGE] - letter[HOP] for letter in own], default=0)
    heard = (kept[GOOD] + len(own) - marked, kept[MARKED] + marked, max(kept[WAIT], wait))
    start = (kept[NAME], due_after(sender, kept[DUE]))
    return start + kept[WINDOW:LOST] + (tuple(sorted(kept[LOST] + tuple(numbers))),) + heard


def stepped(plan, state):
    """A pair: the state behind a round, and the list of its events."""
    senders = plan[SENDERS]
    names = tuple([sender[NAME] for sender in senders])
    roads = dict([(sender[NAME], sender[ROAD]) for sender in senders])
    beats = [beaten(plan[GRID], sender, kept, state) for sender, kept in zip(senders, state[STATE_SENDERS])]
    sent = sent_in_order(senders, [numbers for kept, numbers in beats])
    went = [passed(way, names, kept, sent) for way, kept in zip(plan[WAYS], state[STATE_WAYS])]
    events = [("sent", letter[NAME], letter[NUMBER], first) for first, letter in sent]
    lost = []
    out = []
    for way, told in zip(plan[WAYS], went):
        events.extend(events_of(way, roads, told))
        lost.extend(told[1])
        out.extend(told[2])
    taken = [letter for letter in out if way_behind(roads, letter) is None]
    ways = [way_after(way, roads, told, out) for way, told in zip(plan[WAYS], went)]
    after = [sender_after(sender, beat[0], lost, taken) for sender, beat in zip(senders, beats)]
    return ((tuple(ways), tuple(after)), events)
