"""The desk: lines to a play, and about it and its plan, and their answers."""

from swellways.again import again, told_at
from swellways.ahead import ahead
from swellways.bounds import bounds
from swellways.errors import BadDeed, NoLine
from swellways.fractions import is_name
from swellways.letters import place_of
from swellways.places import DUE, NAME, RULE, SENDERS, STATE_SENDERS
from swellways.plays import Play
from swellways.reading import read_number, read_plan, read_rule, read_sender, read_way
from swellways.rests import rest
from swellways.rules import is_rule
from swellways.shares import even
from swellways.showing import show_parts

MOST_ROUNDS = 2000
NOTHING = "-"

# How many words stand behind the first one of each line; of the lines in LEAST it is at least so many.
JUST = {"go": 1, "leave": 1, "back": 0, "now": 0, "totals": 0, "at": 2, "again": 1, "far": 2, "rest": 1, "bounds": 0,
        "even": 0}
LEAST = {"come": 0, "turn": 1, "way": 0, "ahead": 3}

DEEDS = ("come", "leave", "turn", "way", "back")
OF_PLAY = ("now", "totals", "at")
COUNTED = ("sent", "taken", "lost")


def formed(thing):
    """What a part of a line was read as; where nothing could be read the line is refused."""
    if thing is None:
        raise NoLine("no line is written so")
    return thing


def has_form(word, many):
    """Whether a line has this first word and so many behind it."""
    if word in JUST:
        return many == JUST[word]
    return word in LEAST and many >= LEAST[word]


def read_rounds(word):
    """The number of rounds that a word of a line writes."""
    many = formed(read_number(word))
    return formed(many if many <= MOST_ROUNDS else None)


def read_name(word):
    """The name that a word of a line is."""
    return formed(word if is_name(word) else None)


def read_known(word, rows):
    """The name that a word of a line is, of one of these rows."""
    return formed(word if word in [row[NAME] for row in rows] else None)


def show_rows(rows):
    """What is told for each of some rows."""
    return "; ".join([show_parts(row) for row in rows]) if len(rows) > 0 else NOTHING


def plan_there(play):
    """The plan as it is now, without the senders that left."""
    plan = play.plan()
    there = []
    for sender, kept in zip(plan[SENDERS], play.state()[STATE_SENDERS]):
        if kept[DUE] is not None:
            there.append(sender)
    return plan[:SENDERS] + (tuple(there),)


def do_deed(play, word, more):
    """Does a deed, or undoes one."""
    if word == "come":
        play.come(formed(read_sender(more)))
    elif word == "leave":
        play.leave(read_name(more[0]))
    elif word == "turn":
        play.turn(read_name(more[0]), formed(read_rule(more[1:])))
    elif word == "way":
        play.change(formed(read_way(more)))
    else:
        play.back()
    return "ok"


def tell_play(play, word, more):
    """What a line asks of the play as it is now."""
    if word == "now":
        return show_parts((play.now(),))
    if word == "totals":
        return show_rows(play.totals())
    name = read_known(more[0], play.totals())
    return show_parts(place_of(play.plan(), play.state(), name, formed(read_number(more[1]))))


def with_rule(plan, name, rule):
    """The plan in which a sender has this rule."""
    senders = [sender[:RULE] + (rule,) if sender[NAME] == name else sender for sender in plan[SENDERS]]
    return plan[:SENDERS] + (tuple(senders),)


def tell_ahead(plan, more):
    """Whether a plan is ahead of the one in which a sender has another rule."""
    most = read_rounds(more[0])
    name = read_known(more[1], plan[SENDERS])
    what = formed(more[2] if more[2] in COUNTED else None)
    rule = formed(read_rule(more[3:]))
    if not is_rule(rule):
        raise BadDeed("this is no rule")
    told = ahead(plan, with_rule(plan, name, rule), name, what, most)
    if told is None:
        return NOTHING
    return show_parts(told) if told[0] == "fails" else told[0]


def tell_again(plan, word, more):
    """What a line asks of a plan by a state that comes again."""
    most = read_rounds(more[0])
    later = formed(read_number(more[1])) if word == "far" else 0
    found = again(plan, most)
    if found is None:
        return NOTHING
    if word == "again":
        return show_parts(found)
    if word == "rest":
        return show_rows(rest(plan, found))
    told = told_at(plan, found, later)
    return show_rows(told[0] + told[1])


def tell_plan(plan, word, more):
    """What a line asks of a plan from its own begin."""
    if word == "bounds":
        return show_rows([row[:3] + ("none" if row[3] else "some",) for row in bounds(plan)])
    if word == "even":
        return show_rows([row[:2] + (row[2] if row[2] != "" else NOTHING,) for row in even(plan)])
    if word == "ahead":
        return tell_ahead(plan, more)
    return tell_again(plan, word, more)


def answered(play, word, more):
    """The answer to a line of this first word, with more behind it."""
    if not has_form(word, len(more)):
        raise NoLine("no line is written so")
    if word == "go":
        return show_parts((len(play.go(read_rounds(more[0]))),))
    if word in DEEDS:
        return do_deed(play, word, more)
    if word in OF_PLAY:
        return tell_play(play, word, more)
    return tell_plan(plan_there(play), word, more)


class Desk:
    """A desk; play is the one that it keeps."""

    def __init__(self, text):
        self.play = Play(read_plan(text))

    def say(self, line):
        """The answer to a line."""
        if not isinstance(line, str):
            raise NoLine("a line is a text")
        words = line.split(" ")
        return answered(self.play, words[0], words[1:])
