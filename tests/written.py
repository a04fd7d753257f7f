"""How plans are written and read, told once more by patterns; and what becomes of texts that are spoiled."""

import re
from math import gcd

from swellways.plans import is_plan

NAME = "[a-z]{1,8}"
NUMBER = "(?:0|[1-9][0-9]{0,8})"
FRACTION = f"{NUMBER}(?:/{NUMBER})?"
RULE = "|".join([f"still {FRACTION}", f"(?:step|swell|heed)(?: {FRACTION}){{4}}",
                 f"calm(?: {FRACTION}){{2}}(?: {NUMBER}){{2}} {FRACTION}"])
GRID = f"grid {NUMBER}"
WAY = f"{NAME} {NUMBER} {NUMBER} (?:-|{NUMBER}) (?:line|turns)"
SENDER = f"{NAME} {NAME}(?:,{NAME})* {NUMBER} {NUMBER} (?:-|{NUMBER}) (?:{RULE})"


def of_form(pattern, row):
    """Whether a row is written by a pattern, its fractions in lowest terms, with no bottom of 1."""
    if not re.fullmatch(pattern, row):
        return False
    bottoms = re.findall(f"({NUMBER})/({NUMBER})", row)
    return all(int(bottom) > 1 and gcd(int(top), int(bottom)) == 1 for top, bottom in bottoms)


def fraction(word):
    top, bar, bottom = word.partition("/")
    return (int(top), int(bottom or "1"))


def number(word):
    return None if word == "-" else int(word)


def rule(words):
    if words[0] == "calm":
        return ("calm", fraction(words[1]), fraction(words[2]), int(words[3]), int(words[4]), fraction(words[5]))
    return (words[0],) + tuple([fraction(word) for word in words[1:]])


def way(words):
    return (words[0], int(words[1]), int(words[2]), number(words[3]), words[4])


def sender(words):
    return (words[0], tuple(words[1].split(",")), int(words[2]), int(words[3]), number(words[4]), rule(words[5:]))


def plan(text):
    """The plan that a text writes, or the number of the row by which it is refused."""
    rows = text.split("\n")
    if not of_form(GRID, rows[0]):
        return 0
    words = [row.split(" ")[0] for row in rows]
    for place, row in enumerate(rows[1:], 1):
        if of_form(f"way {WAY}", row) and "sender" not in words[:place]:
            continue
        if not of_form(f"sender {SENDER}", row) or place == 1:
            return place
    parts = [row.split(" ")[1:] for row in rows]
    told = (int(parts[0][0]), tuple([way(part) for word, part in zip(words, parts) if word == "way"]),
            tuple([sender(part) for word, part in zip(words, parts) if word == "sender"]))
    return told if is_plan(told) else len(rows)


def show_fraction(pair):
    return str(pair[0]) if pair[1] == 1 else f"{pair[0]}/{pair[1]}"


def show_rule(rule):
    return " ".join([rule[0]] + [str(part) if isinstance(part, int) else show_fraction(part) for part in rule[1:]])


def show_number(part):
    return "-" if part is None else str(part)


def show_way(way):
    return f"{way[0]} {way[1]} {way[2]} {show_number(way[3])} {way[4]}"


def show_sender(sender):
    name, road, beat, begin, many, rule = sender
    return f"{name} {','.join(road)} {beat} {begin} {show_number(many)} {show_rule(rule)}"


def show(plan):
    return "\n".join([f"grid {plan[0]}"] + ["way " + show_way(way) for way in plan[1]]
                     + ["sender " + show_sender(sender) for sender in plan[2]])


def spoiled(source, text):
    """A text with a sign, a word or a row left out, put in, or in another place."""
    turn = source.randint(0, 2)
    between = ("", " ", "\n")[turn]
    parts = list(text) if turn == 0 else text.split(between)
    place, other = source.randrange(len(parts)), source.randrange(len(parts))
    signs = ["0", "1", "00", "007", "/", "-", ",", " ", "\n", "a", "x", "9", "4/2", "2/1", "1/2", "999999999",
             "1000000000",
             "way", "sender", "grid", "line", "still", "calm", "", ".", "+1", "A", "grid 1", "way x 1 1 - line",
             "sender x x 1 0 - still 1"]
    deed = source.randint(0, 3)
    if deed == 0:
        parts.pop(place)
    if deed == 1:
        parts.insert(place, source.choice(signs))
    if deed == 2:
        parts[place] = source.choice(signs)
    if deed == 3:
        parts[place], parts[other] = parts[other], parts[place]
    return between.join(parts)
