"""Plays: rounds of a plan, with deeds ahead of any of them, all of which may be undone."""

from swellways.errors import BadDeed, NoDeed, NoName, Taken
from swellways.fractions import is_name
from swellways.places import DUE, GRID, LAST, NAME, RULE, SENDERS, SHARE, SORT, STATE_SENDERS, STATE_WAYS, WAYS, WINDOW
from swellways.plans import MOST_SENDERS, is_sender, is_way
from swellways.rounds import begun_sender, stepped
from swellways.rules import begun_by, held, is_rule
from swellways.runs import counted_first, totals_after


def name_of(row):
    """The name that stands first in a row."""
    return row[NAME]


def with_one_more(rows, row):
    """Rows of rising names with one more among them."""
    return tuple(sorted(rows + (row,), key=name_of))


def with_other(rows, row):
    """Rows with this one in the place of the one of its name."""
    return tuple([row if one[NAME] == row[NAME] else one for one in rows])


def row_of(rows, name):
    """The row of this name."""
    return [row for row in rows if row[NAME] == name][0]


def is_among(thing, rows):
    """Whether a thing is the name of one of these rows."""
    return is_name(thing) and thing in [row[NAME] for row in rows]


def there_still(state):
    """The parts of a state of those senders that haven't left."""
    return [kept for kept in state[STATE_SENDERS] if kept[DUE] is not None]


def turned_window(rule, grid, window):
    """The window of a sender whose rule is this one from now on."""
    return begun_by(rule, grid)[0] if rule[0] == "still" else held(rule, grid, window)


def ways_changed(plan, state, way):
    """The ways' parts of a state once the way of this name is this one."""
    parts = []
    for old, kept in zip(plan[WAYS], state[STATE_WAYS]):
        # A line keeps no turns, so it has no last.
        forgets = old[NAME] == way[NAME] and way[SORT] == "line"
        parts.append(kept[:LAST] + ("",) if forgets else kept)
    return tuple(parts)


class Play:
    """A play of a plan; moment is what is now: the round, the plan, the state and the totals."""

    def __init__(self, plan):
        first = counted_first(plan)
        self.moment = (0, plan, first[0], first[1])
        # The moments ahead of each deed and go that isn't undone.
        self.earlier = []

    def now(self):
        """The number of the next round."""
        return self.moment[0]

    def plan(self):
        """The plan as it is now, with the senders that left."""
        return self.moment[1]

    def state(self):
        """The state as it is now, with the senders that left."""
        return self.moment[2]

    def totals(self):
        """The totals of all rounds so far, with the senders that left."""
        return self.moment[3]

    def move_on(self, moment):
        """Makes a moment the one that is now; what was can be gone back to."""
        self.earlier.append(self.moment)
        self.moment = moment

    def put_senders(self, senders, parts, counts):
        """Moves on to these senders, their parts of the state, and their totals."""
        plan = self.plan()[:SENDERS] + (senders,)
        self.move_on((self.now(), plan, (self.state()[STATE_WAYS], parts), counts))

    def go(self, many):
        """Goes on so many rounds; told is the list of their events, each with its round ahead."""
        state = self.state()
        counts = self.totals()
        events = []
        for turn in range(self.now(), self.now() + many):
            told = stepped(self.plan(), state)
            counts = totals_after(counts, state, told)
            state = told[0]
            events.extend([(turn,) + event for event in told[1]])
        self.move_on((self.now() + many, self.plan(), state, counts))
        return events

    def come(self, sender):
        """One more sender comes."""
        senders = self.plan()[SENDERS]
        if not is_sender(sender, self.plan()[WAYS]):
            raise BadDeed("this is no sender that the plan has a place for")
        if is_among(sender[NAME], senders):
            raise Taken("a sender is or was so called")
        if len(senders) >= MOST_SENDERS:
            raise BadDeed("there is no place for one more sender")
        part = begun_sender(self.plan()[GRID], sender)
        parts = with_one_more(self.state()[STATE_SENDERS], part)
        counts = with_one_more(self.totals(), (sender[NAME], 0, 0, 0, 0))
        self.put_senders(with_one_more(senders, sender), parts, counts)

    def leave(self, name):
        """A sender has no more beats."""
        if not is_among(name, there_still(self.state())):
            raise NoName("no sender there is so called")
        parts = self.state()[STATE_SENDERS]
        part = row_of(parts, name)
        gone = part[:DUE] + (None,) + part[DUE + 1:]
        self.put_senders(self.plan()[SENDERS], with_other(parts, gone), self.totals())

    def turn(self, name, rule):
        """A sender has another rule."""
        if not is_rule(rule):
            raise BadDeed("this is no rule")
        if not is_among(name, there_still(self.state())):
            raise NoName("no sender there is so called")
        senders = self.plan()[SENDERS]
        parts = self.state()[STATE_SENDERS]
        sender = row_of(senders, name)[:RULE] + (rule,)
        part = row_of(parts, name)
        window = turned_window(rule, self.plan()[GRID], part[WINDOW])
        turned = part[:WINDOW] + (window,) + part[SHARE:]
        self.put_senders(with_other(senders, sender), with_other(parts, turned), self.totals())

    def change(self, way):
        """The way of this name is this one."""
        plan = self.plan()
        if not is_way(way):
            raise BadDeed("this is no way")
        if not is_among(way[NAME], plan[WAYS]):
            raise NoName("no way is so called")
        state = (ways_changed(plan, self.state(), way), self.state()[STATE_SENDERS])
        changed = (plan[GRID], with_other(plan[WAYS], way), plan[SENDERS])
        self.move_on((self.now(), changed, state, self.totals()))

    def back(self):
        """Undoes the last deed or go."""
        if len(self.earlier) == 0:
            raise NoDeed("there is nothing to undo")
        self.moment = self.earlier.pop()
