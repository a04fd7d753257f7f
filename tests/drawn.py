"""Rules, plans and things heard, drawn from a seed."""

from fractions import Fraction

WORDS = ("still", "step", "swell", "heed", "calm")
NAMES = ("a", "ab", "b", "bob", "c", "dd", "eve", "fff", "zz")


def fraction(source, least, most):
    """A fraction from least to most, which are whole numbers."""
    bottom = source.choice([1, 1, 2, 3, 4, 7, 12, 60])
    number = Fraction(source.randint(least * bottom, most * bottom), bottom)
    return (number.numerator, number.denominator)


def at_most(source, bound):
    """A fraction above 0 and at most the bound, a fraction."""
    number = Fraction(*bound) * Fraction(source.randint(1, 6), 6)
    return (number.numerator, number.denominator)


def at_least_one(source, bound):
    """A fraction from 1 to the bound, a fraction from 1 on."""
    number = 1 + (Fraction(*bound) - 1) * Fraction(source.randint(0, 6), 6)
    return (number.numerator, number.denominator)


def below_one(source):
    bottom = source.choice([2, 3, 5, 10, 60])
    return fraction_of(source.randint(1, bottom - 1), bottom)


def fraction_of(top, bottom):
    number = Fraction(top, bottom)
    return (number.numerator, number.denominator)


def rule(source, word=None, most=60):
    """A rule, its top at most most."""
    word = word or source.choice(WORDS)
    top = fraction(source, 1, most)
    first = at_least_one(source, top)
    if word == "still":
        return (word, first)
    up = at_most(source, source.choice([(1, 2), (1, 1), (3, 1), (60, 1)]))
    if word == "step":
        return (word, first, up, below_one(source), top)
    if word == "swell":
        up = fraction_of(60 + source.randint(1, 90), 60)
        return (word, first, up, below_one(source), top)
    if word == "heed":
        return (word, first, up, at_most(source, (1, 1)), top)
    low = source.randint(0, 4)
    return (word, first, up, low, low + source.randint(0, 4), top)


def gentler_rule(source, rule):
    """A rule that is gentler than the one handed in."""
    word = rule[0]
    if word == "still":
        return (word, at_least_one(source, rule[1]))
    top = at_least_one(source, rule[-1])
    low = rule[1] if rule[1][0] * top[1] < top[0] * rule[1][1] else top
    first = at_least_one(source, low)
    if word == "step":
        return (word, first, at_most(source, rule[2]), at_most(source, rule[3]), top)
    if word == "swell":
        return (word, first, above_one(source, rule[2]), at_most(source, rule[3]), top)
    if word == "heed":
        return (word, first, at_most(source, rule[2]), rule[3], top)
    return (word, first) + rule[2:5] + (top,)


def above_one(source, bound):
    """A fraction above 1 and at most the bound, which is above 1."""
    number = 1 + (Fraction(*bound) - 1) * Fraction(source.randint(1, 6), 6)
    return (number.numerator, number.denominator)


def grid(source):
    return source.choice([1, 1, 2, 3, 5, 7, 12, 59, 60, source.randint(1, 60)])


def heard(source):
    good = source.choice([0, 0, 1, 2, 9])
    marked = source.choice([0, 0, 0, 1, 3])
    lost = source.choice([0, 0, 0, 1, 5])
    wait = source.randint(0, 9) if good + marked else 0
    return (good, marked, lost, wait)


def row(source):
    return [heard(source) for turn in range(source.randint(0, 12))]


def way(source, name):
    """A way, rather a narrow one, so that letters wait and are lost."""
    pace = source.choice([1, 1, 2, 3, source.randint(1, 20)])
    room = source.choice([1, 2, 4, 9, source.randint(1, 60)])
    mark = source.choice([None, None, 0, 1, room // 2, room, source.randint(0, 60)])
    return (name, pace, room, mark, source.choice(["line", "turns"]))


def sender(source, name, ways):
    road = [one for one in ways if source.random() < 0.6] or [source.choice(ways)]
    begin = source.choice([0, 0, 0, 1, source.randint(0, 20)])
    many = source.choice([None, None, None, 0, 1, source.randint(0, 60)])
    return (name, tuple(road), source.randint(1, source.choice([1, 3, 8])), begin, many,
            rule(source, most=source.choice([2, 6, 20])))


def plan(source):
    """A plan of one to six ways and none to eight senders."""
    ways = source.sample(NAMES, source.choice([1, 1, 2, 3, source.randint(1, 6)]))
    names = sorted(source.sample(NAMES, source.choice([1, 2, 2, 3, source.randint(0, 8)])))
    return (grid(source), tuple([way(source, name) for name in ways]),
            tuple([sender(source, name, ways) for name in names]))


def letters(source, names, many):
    """So many letters of these senders, no two of one sender with one number."""
    return tuple([(source.choice(names), number, source.randint(0, 9), source.randint(0, 3), source.randint(0, 1))
                  for number in range(many)])


def sender_beside(source, sender):
    """The sender with another rule, beat, begin or many, or with the same ones."""
    name, road, beat, begin, many, own = sender
    turn = source.randint(0, 5)
    if turn == 0:
        own = gentler_rule(source, own)
    if turn == 1:
        own = rule(source, most=source.choice([2, 6, 20]))
    if turn == 2:
        beat = source.randint(1, 8)
    if turn == 3:
        begin = source.choice([0, begin + 1, begin + 5, 20])
    if turn == 4:
        many = source.choice([None, 3, 20])
    return (name, road, beat, begin, many, own)


def way_beside(source, way):
    """The way with more or less pace or room, or with the same."""
    name, pace, room, mark, sort = way
    turn = source.randint(0, 4)
    if turn == 0:
        pace = max(1, pace + source.choice([-1, 1]))
    if turn == 1:
        room = max(1, room + source.choice([-2, -1, 1, 2]))
    return (name, pace, room, mark, sort)


def plan_beside(source, plan):
    """A plan of the same names, not far from the one handed in."""
    ways, senders = plan[1:]
    if source.random() < 0.5:
        ways = tuple([way_beside(source, way) for way in ways])
    if source.random() < 0.9:
        senders = tuple([sender_beside(source, sender) for sender in senders])
    return (plan[0], ways, senders)


def other_windows(source, plan):
    """The plan with other windows at the begin, its rules else as they are."""
    senders = []
    for sender in plan[2]:
        own = sender[5]
        if own[0] != "still":
            own = (own[0], source.choice([(1, 1), own[-1], at_least_one(source, own[-1])])) + own[2:]
        senders.append(sender[:5] + (own,))
    return plan[:2] + (tuple(senders),)


def calm_plan(source):
    """A plan whose ways let out about as much as comes, so that loads lie just below, at and above the pace."""
    grid, ways, senders = plan(source)
    eased = []
    for way in ways:
        load = sum(Fraction(own[5][-1][0] // own[5][-1][1], own[2]) for own in senders if way[0] in own[1])
        pace = min(20, max(1, int(load) + source.choice([0, 0, 0, 1, 2])))
        eased.append((way[0], pace, source.choice([way[2], source.randint(1, 60), 60])) + way[3:])
    return (grid, tuple(eased), senders)


def deed(source, plan, left):
    """A deed that a play of this plan, with those that left by name, takes: (word, what is handed in ..)."""
    grid, ways, senders = plan
    names = [one[0] for one in senders]
    there = [name for name in names if name not in left]
    word = source.choice(["come", "leave", "turn", "turn", "change", "change"])
    if word == "come" and len(names) < 8:
        name = source.choice([one for one in NAMES + ("m", "q", "x") if one not in names])
        return (word, sender(source, name, [one[0] for one in ways]))
    if word == "leave" and there:
        return (word, source.choice(there))
    if word == "turn" and there:
        return (word, source.choice(there), rule(source, most=source.choice([2, 6, 20])))
    return ("change", way(source, source.choice(ways)[0]))


def plan_of_deed(plan, deed):
    """The plan behind a deed, with those that left."""
    grid, ways, senders = plan
    if deed[0] == "come":
        senders = tuple(sorted(senders + deed[1:]))
    if deed[0] == "turn":
        senders = tuple([one[:5] + deed[2:] if one[0] == deed[1] else one for one in senders])
    if deed[0] == "change":
        ways = tuple([deed[1] if one[0] == deed[1][0] else one for one in ways])
    return (grid, ways, senders)
