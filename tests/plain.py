"""The document's rules told once more, in another way: by Python's own fractions, letter by letter, and with
changing lists. What the program tells is held against it."""

from fractions import Fraction
from math import ceil, floor, lcm


def of(pair):
    return Fraction(pair[0], pair[1])


def pair_of(number):
    return (number.numerator, number.denominator)


def cut(number, grid):
    return Fraction(floor(number * grid), grid)


def top_of(rule):
    return of(rule[1]) if rule[0] == "still" else of(rule[-1])


def wanted(rule, grid, window, share, heard):
    """The window ahead of its bounds, the share, and what the window was multiplied by (or None)."""
    good, marked, lost, wait = heard
    bad = marked + lost
    word = rule[0]
    if word == "step":
        if bad:
            return window * of(rule[3]), share, of(rule[3])
        return window + of(rule[2]), share, None
    if word == "swell":
        by = of(rule[3]) if bad else of(rule[2])
        return window * by, share, by
    if word == "heed":
        share = cut(share + of(rule[3]) * (Fraction(bad, good + bad) - share), grid)
        if bad:
            return window * (1 - share / 2), share, 1 - share / 2
        return window + of(rule[2]), share, None
    if lost:
        return window / 2, share, Fraction(1, 2)
    if wait < rule[3]:
        return window + of(rule[2]), share, None
    if wait > rule[4]:
        return window - of(rule[2]), share, None
    return window, share, None


def heard_by(rule, grid, window, share, heard):
    """Window and share, as Python's fractions, behind what is heard."""
    if rule[0] == "still" or not any(heard[:3]):
        return window, share
    window, share, by = wanted(rule, grid, window, share, heard)
    return cut(min(max(window, 1), top_of(rule)), grid), share


class PlainRun:
    """Point 13 told once more, with letters that are dicts and wander from list to list."""

    def __init__(self, plan):
        self.grid, ways, senders = plan
        self.ways = [dict(zip(("name", "pace", "room", "mark", "sort"), way), coming=[], standing=[], last="")
                     for way in ways]
        self.senders = {}
        for name, road, beat, begin, many, rule in senders:
            self.senders[name] = dict(
                name=name, road=road, beat=beat, rule=rule, due=begin, left=many, window=cut(of(rule[1]), self.grid),
                share=Fraction(0), next=0, again=[], lost=[], good=0, marked=0, wait=0)
        self.totals = {name: {"sent": 0, "taken": 0, "lost": 0, "marked": 0} for name in self.senders}

    def come(self, sender):
        name = sender[0]
        other = PlainRun((self.grid, (), (sender,)))
        self.senders = dict(sorted([*self.senders.items(), (name, other.senders[name])]))
        self.totals = dict(sorted([*self.totals.items(), (name, other.totals[name])]))

    def leave(self, name):
        self.senders[name]["due"] = None

    def turn(self, name, rule):
        sender = self.senders[name]
        sender["rule"] = rule
        window = top_of(rule) if rule[0] == "still" else min(max(sender["window"], 1), top_of(rule))
        sender["window"] = cut(window, self.grid)

    def change(self, way):
        for one in self.ways:
            if one["name"] == way[0]:
                one.update(zip(("name", "pace", "room", "mark", "sort"), way))
                one["last"] = "" if way[4] == "line" else one["last"]

    def letters(self):
        return [letter for way in self.ways for letter in way["coming"] + way["standing"]]

    def beat(self, sender):
        """The letters that a sender sends at its beat."""
        heard = (sender["good"], sender["marked"], len(sender["lost"]), sender["wait"])
        sender["window"], sender["share"] = heard_by(
            sender["rule"], self.grid, sender["window"], sender["share"], heard)
        sender["again"] = sorted(sender["again"] + sender["lost"])
        sender.update(lost=[], good=0, marked=0, wait=0)
        own = len([letter for letter in self.letters() if letter["name"] == sender["name"]])
        sent = []
        while own + len(sent) < floor(sender["window"]):
            if sender["again"]:
                number = sender["again"].pop(0)
            elif sender["left"] is None or sender["left"] > 0:
                number = sender["next"]
                sender["next"] += 1
                if sender["left"] is not None:
                    sender["left"] -= 1
            else:
                break
            sent.append({"name": sender["name"], "number": number, "age": 0, "hop": 0, "mark": 0})
        return sent

    def step(self):
        """Goes on one round; told are its events."""
        rows = [self.beat(sender) if sender["due"] == 0 else [] for sender in self.senders.values()]
        sent = [row[place] for place in range(61) for row in rows if place < len(row)]
        events = []
        for letter in sent:
            self.tell(events, "sent", letter, self.senders[letter["name"]]["road"][0])
        gone = []
        for way in self.ways:
            came, way["coming"] = way["coming"], []
            for letter in came + [one for one in sent if self.senders[one["name"]]["road"][0] == way["name"]]:
                self.come_in(events, way, letter)
            for turn in range(way["pace"]):
                if way["standing"]:
                    self.go_out(events, gone, way)
        for letter, name in gone:
            [way for way in self.ways if way["name"] == name][0]["coming"].append(letter)
        for letter in self.letters():
            letter["age"] += 1
        for sender in self.senders.values():
            if sender["due"] is not None:
                sender["due"] = (sender["beat"] if sender["due"] == 0 else sender["due"]) - 1
        return events

    def tell(self, events, word, letter, way):
        events.append((word, letter["name"], letter["number"], way))
        if word in ("sent", "taken", "lost"):
            self.totals[letter["name"]][word] += 1

    def come_in(self, events, way, letter):
        if len(way["standing"]) >= way["room"]:
            self.tell(events, "lost", letter, way["name"])
            sender = self.senders[letter["name"]]
            sender["lost"] = sorted(sender["lost"] + [letter["number"]])
            return
        if way["mark"] is not None and len(way["standing"]) >= way["mark"]:
            letter["mark"] = 1
        way["standing"].append(letter)
        self.tell(events, "in", letter, way["name"])

    def picked(self, way):
        """The letter that a way lets out next."""
        if way["sort"] == "line":
            return way["standing"][0]
        names = sorted(self.senders)
        start = names.index(way["last"]) + 1 if way["last"] else 0
        for step in range(len(names)):
            for letter in way["standing"]:
                if letter["name"] == names[(start + step) % len(names)]:
                    way["last"] = letter["name"]
                    return letter

    def go_out(self, events, gone, way):
        letter = self.picked(way)
        way["standing"] = [one for one in way["standing"] if one is not letter]
        sender = self.senders[letter["name"]]
        if way["name"] != sender["road"][-1]:
            self.tell(events, "out", letter, way["name"])
            letter["hop"] += 1
            gone.append((letter, sender["road"][letter["hop"]]))
            return
        self.tell(events, "taken", letter, way["name"])
        sender["wait"] = max(sender["wait"], letter["age"] - letter["hop"])
        sender["marked" if letter["mark"] else "good"] += 1
        self.totals[letter["name"]]["marked"] += letter["mark"]

    def state(self):
        """The state as the document writes it."""
        def written(letters):
            return tuple((one["name"], one["number"], one["age"], one["hop"], one["mark"]) for one in letters)

        ways = tuple((written(way["coming"]), written(way["standing"]), way["last"]) for way in self.ways)
        senders = tuple(
            (one["name"], one["due"], pair_of(one["window"]), pair_of(one["share"]), one["next"], one["left"],
             tuple(one["again"]), tuple(one["lost"]), one["good"], one["marked"], one["wait"])
            for one in self.senders.values())
        return (ways, senders)

    def counted(self):
        return tuple((name, row["sent"], row["taken"], row["lost"], row["marked"])
                     for name, row in self.totals.items())


def walked(plan, many):
    """The pairs (state, totals) ahead of each round from 0 to many."""
    other = PlainRun(plan)
    pairs = [(other.state(), other.counted())]
    for turn in range(many):
        other.step()
        pairs.append((other.state(), other.counted()))
    return pairs


def moved(state, by):
    """The state with each sender's numbers moved, by being a dict."""
    ways = tuple([
        tuple([tuple([(one[0], one[1] + by[one[0]]) + one[2:] for one in letters]) for letters in way[:2]]) + way[2:]
        for way in state[0]])
    senders = tuple([
        one[:4] + (one[4] + by[one[0]], one[5], tuple([number + by[one[0]] for number in one[6]]),
                   tuple([number + by[one[0]] for number in one[7]])) + one[8:]
        for one in state[1]])
    return (ways, senders)


def like(state):
    return moved(state, {sender[0]: -sender[4] for sender in state[1]})


def again(plan, most):
    """The least t that comes again, with its s, looked for among all pairs."""
    likes = [like(state) for state, counted in walked(plan, most)]
    for t in range(1, most + 1):
        for s in range(t):
            if likes[s] == likes[t]:
                return (s, t)
    return None


def told(plan, pair):
    """What point 17 tells of a round, by its pair of state and totals."""
    state, counted = pair
    senders = tuple((row[0], kept[2]) + row[1:] for row, kept in zip(counted, state[1]))
    return (senders, tuple((way[0], len(kept[1])) for way, kept in zip(plan[1], state[0])))


def limit(sender):
    """The T of point 19."""
    return floor(top_of(sender[5]))


def is_right_row(plan, place, table):
    """Point 19 told once more: whether the row at a place of a table of right form is right."""
    name, most, wait, none = table[place]
    pace, room, sort = [plan[1][place][part] for part in (1, 2, 4)]
    waits = {row[0]: row[2] for row in table[:place]}
    users = [sender for sender in plan[2] if name in sender[1]]

    def a(n):
        return sum(limit(one) * ceil(Fraction(n + sum(waits[way] for way in one[1][:one[1].index(name)]), one[2]))
                   for one in users)

    steady = sum(Fraction(limit(one), one[2]) for one in users) <= pace
    # Twice as far as is enough, so that it is seen that it is enough.
    most_f = max(a(n) - pace * (n - 1) for n in range(1, 2 * lcm(*[one[2] for one in users]) + 1))
    held = min(room, most) * (len(users) if sort == "turns" else 1)
    right_most = most >= room or steady and most >= most_f
    right_wait = not users or wait >= ceil(Fraction(held, pace)) - 1 or a(wait + 1) <= pace * (wait + 1)
    return right_most and right_wait and (none is False or steady and room >= most_f)


def is_right_table(plan, thing):
    """Whether a thing is a right table of bounds."""
    if type(thing) is not tuple or len(thing) != len(plan[1]):
        return False
    for row, way in zip(thing, plan[1]):
        if type(row) is not tuple or [type(part) for part in row] != [str, int, int, bool]:
            return False
        if row[0] != way[0] or min(row[1:3]) < 0:
            return False
    return all(is_right_row(plan, place, thing) for place in range(len(thing)))


def least_bounds(plan):
    """Point 20 told once more: each row looked for from 0 on."""
    table = ()
    for place, way in enumerate(plan[1]):
        most = wait = 0
        # Whatever the most, a wait as long as all rounds of a full way by turns is right.
        while not is_right_row(plan, place, table + ((way[0], most, 8 * 60, False),)):
            most += 1
        while not is_right_row(plan, place, table + ((way[0], most, wait, False),)):
            wait += 1
        none = is_right_row(plan, place, table + ((way[0], most, wait, True),))
        table += ((way[0], most, wait, none),)
    return table


def watched(plan, many):
    """For each way, in so many rounds: the most that stood once all had come in, the longest wait, how many were lost.
    """
    other = PlainRun(plan)
    came, rows = {}, {way[0]: [0, 0, 0, 0] for way in plan[1]}
    for turn in range(many):
        for word, name, number, way in other.step():
            row = rows[way]
            if word == "in":
                came[(name, number, way)] = turn
                row[3] += 1
                row[0] = max(row[0], row[3])
            if word in ("out", "taken"):
                row[1] = max(row[1], turn - came[(name, number, way)])
                row[3] -= 1
            if word == "lost":
                row[2] += 1
    return [(way[0], *rows[way[0]][:3]) for way in plan[1]]


def fit(plan, shares):
    """Point 21 told once more: whether shares, a dict of Python's fractions, fit."""
    if any(not 0 <= shares[one[0]] <= Fraction(limit(one), one[2]) for one in plan[2]):
        return False
    return all(sum(shares[one[0]] for one in plan[2] if way[0] in one[1]) <= way[1] for way in plan[1])


def whys(plan, shares, name):
    """All texts that may tell why a sender has no more than its share."""
    sender = [one for one in plan[2] if one[0] == name][0]
    told = [""] if shares[name] == Fraction(limit(sender), sender[2]) else []
    for way in plan[1]:
        others = [shares[one[0]] for one in plan[2] if way[0] in one[1]]
        if way[0] in sender[1] and sum(others) == way[1] and max(others) == shares[name]:
            told.append(way[0])
    return told


def even(plan):
    """The even shares, found the other way round: the one that could have more takes it from one that has more than
    it, until none can; a dict of Python's fractions, or None where that takes too long."""
    shares = {one[0]: Fraction(0) for one in plan[2]}
    for turn in range(400):
        moved_one = False
        for sender in sorted(plan[2], key=lambda one: shares[one[0]]):
            if not whys(plan, shares, sender[0]):
                raise_one(plan, shares, sender)
                moved_one = True
        if not moved_one:
            return shares
    return None


def raise_one(plan, shares, sender):
    """Gives a sender as much as it may have when on each way those that have more come down to it."""
    most = Fraction(limit(sender), sender[2])
    for way in plan[1]:
        if way[0] in sender[1]:
            others = sorted(shares[one[0]] for one in plan[2] if way[0] in one[1] and one[0] != sender[0])
            most = min(most, level(way[1], others))
    shares[sender[0]] = most
    for way in plan[1]:
        users = [one[0] for one in plan[2] if way[0] in one[1]]
        if way[0] in sender[1] and sum(shares[name] for name in users) > way[1]:
            for name in users:
                shares[name] = min(shares[name], most)


def level(pace, others):
    """The greatest share of one more beside others, rising, of which those above it come down to it."""
    for count in range(len(others) + 1):
        # The count least ones stay, all the other ones have alike.
        alike = (pace - sum(others[:count])) / Fraction(len(others) - count + 1)
        if count == len(others) or alike <= others[count]:
            return alike
    return None
