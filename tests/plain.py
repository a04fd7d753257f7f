"""The document's rules told once more, in another way: by Python's own fractions, letter by letter, and with
changing lists. What the program tells is held against it."""

from fractions import Fraction
from math import floor


def of(pair):
    return Fraction(pair[0], pair[1])


def pair_of(number):
    return (number.numerator, number.denominator)


def cut(number, grid):
    return Fraction(floor(number * grid), grid)


def top_of(rule):
    return of(rule[1]) if rule[0] == "still" else of(rule[-1])


def wanted(rule, grid, window, share, heard):
    """The window ahead of its bounds, the share, and what the window was multiplied by (or None)."""
    good, marked, lost, wait = heard
    bad = marked + lost
    word = rule[0]
    if word == "step":
        if bad:
            return window * of(rule[3]), share, of(rule[3])
        return window + of(rule[2]), share, None
    if word == "swell":
        by = of(rule[3]) if bad else of(rule[2])
        return window * by, share, by
    if word == "heed":
        share = cut(share + of(rule[3]) * (Fraction(bad, good + bad) - share), grid)
        if bad:
            return window * (1 - share / 2), share, 1 - share / 2
        return window + of(rule[2]), share, None
    if lost:
        return window / 2, share, Fraction(1, 2)
    if wait < rule[3]:
        return window + of(rule[2]), share, None
    if wait > rule[4]:
        return window - of(rule[2]), share, None
    return window, share, None


def heard_by(rule, grid, window, share, heard):
    """Window and share, as Python's fractions, behind what is heard."""
    if rule[0] == "still" or not any(heard[:3]):
        return window, share
    window, share, by = wanted(rule, grid, window, share, heard)
    return cut(min(max(window, 1), top_of(rule)), grid), share


class PlainRun:
    """Point 13 told once more, with letters that are dicts and wander from list to list."""

    def __init__(self, plan):
        self.grid, ways, senders = plan
        self.ways = [dict(zip(("name", "pace", "room", "mark", "sort"), way), coming=[], standing=[], last="")
                     for way in ways]
        self.senders = {}
        for name, road, beat, begin, many, rule in senders:
            self.senders[name] = dict(
                name=name, road=road, beat=beat, rule=rule, due=begin, left=many, window=cut(of(rule[1]), self.grid),
                share=Fraction(0), next=0, again=[], lost=[], good=0, marked=0, wait=0)
        self.totals = {name: {"sent": 0, "taken": 0, "lost": 0, "marked": 0} for name in self.senders}

    def letters(self):
        return [letter for way in self.ways for letter in way["coming"] + way["standing"]]

    def beat(self, sender):
        """The letters that a sender sends at its beat."""
        heard = (sender["good"], sender["marked"], len(sender["lost"]), sender["wait"])
        sender["window"], sender["share"] = heard_by(
            sender["rule"], self.grid, sender["window"], sender["share"], heard)
        sender["again"] = sorted(sender["again"] + sender["lost"])
        sender.update(lost=[], good=0, marked=0, wait=0)
        own = len([letter for letter in self.letters() if letter["name"] == sender["name"]])
        sent = []
        while own + len(sent) < floor(sender["window"]):
            if sender["again"]:
                number = sender["again"].pop(0)
            elif sender["left"] is None or sender["left"] > 0:
                number = sender["next"]
                sender["next"] += 1
                if sender["left"] is not None:
                    sender["left"] -= 1
            else:
                break
            sent.append({"name": sender["name"], "number": number, "age": 0, "hop": 0, "mark": 0})
        return sent

    def step(self):
        """Goes on one round; told are its events."""
        rows = [self.beat(sender) if sender["due"] == 0 else [] for sender in self.senders.values()]
        sent = [row[place] for place in range(61) for row in rows if place < len(row)]
        events = []
        for letter in sent:
            self.tell(events, "sent", letter, self.senders[letter["name"]]["road"][0])
        gone = []
        for way in self.ways:
            came, way["coming"] = way["coming"], []
            for letter in came + [one for one in sent if self.senders[one["name"]]["road"][0] == way["name"]]:
                self.come_in(events, way, letter)
            for turn in range(way["pace"]):
                if way["standing"]:
                    self.go_out(events, gone, way)
        for letter, name in gone:
            [way for way in self.ways if way["name"] == name][0]["coming"].append(letter)
        for letter in self.letters():
            letter["age"] += 1
        for sender in self.senders.values():
            if sender["due"] is not None:
                sender["due"] = (sender["beat"] if sender["due"] == 0 else sender["due"]) - 1
        return events

    def tell(self, events, word, letter, way):
        events.append((word, letter["name"], letter["number"], way))
        if word in ("sent", "taken", "lost"):
            self.totals[letter["name"]][word] += 1

    def come_in(self, events, way, letter):
        if len(way["standing"]) >= way["room"]:
            self.tell(events, "lost", letter, way["name"])
            sender = self.senders[letter["name"]]
            sender["lost"] = sorted(sender["lost"] + [letter["number"]])
            return
        if way["mark"] is not None and len(way["standing"]) >= way["mark"]:
            letter["mark"] = 1
        way["standing"].append(letter)
        self.tell(events, "in", letter, way["name"])

    def picked(self, way):
        """The letter that a way lets out next."""
        if way["sort"] == "line":
            return way["standing"][0]
        names = sorted(self.senders)
        start = names.index(way["last"]) + 1 if way["last"] else 0
        for step in range(len(names)):
            for letter in way["standing"]:
                if letter["name"] == names[(start + step) % len(names)]:
                    way["last"] = letter["name"]
                    return letter

    def go_out(self, events, gone, way):
        letter = self.picked(way)
        way["standing"] = [one for one in way["standing"] if one is not letter]
        sender = self.senders[letter["name"]]
        if way["name"] != sender["road"][-1]:
            self.tell(events, "out", letter, way["name"])
            letter["hop"] += 1
            gone.append((letter, sender["road"][letter["hop"]]))
            return
        self.tell(events, "taken", letter, way["name"])
        sender["wait"] = max(sender["wait"], letter["age"] - letter["hop"])
        sender["marked" if letter["mark"] else "good"] += 1
        self.totals[letter["name"]]["marked"] += letter["mark"]

    def state(self):
        """The state as the document writes it."""
        def written(letters):
            return tuple((one["name"], one["number"], one["age"], one["hop"], one["mark"]) for one in letters)

        ways = tuple((written(way["coming"]), written(way["standing"]), way["last"]) for way in self.ways)
        senders = tuple(
            (one["name"], one["due"], pair_of(one["window"]), pair_of(one["share"]), one["next"], one["left"],
             tuple(one["again"]), tuple(one["lost"]), one["good"], one["marked"], one["wait"])
            for one in self.senders.values())
        return (ways, senders)

    def counted(self):
        return tuple((name, row["sent"], row["taken"], row["lost"], row["marked"])
                     for name, row in self.totals.items())


def walked(plan, many):
    """The pairs (state, totals) ahead of each round from 0 to many."""
    other = PlainRun(plan)
    pairs = [(other.state(), other.counted())]
    for turn in range(many):
        other.step()
        pairs.append((other.state(), other.counted()))
    return pairs


def moved(state, by):
    """The state with each sender's numbers moved, by being a dict."""
    ways = tuple([
        tuple([tuple([(one[0], one[1] + by[one[0]]) + one[2:] for one in letters]) for letters in way[:2]]) + way[2:]
        for way in state[0]])
    senders = tuple([
        one[:4] + (one[4] + by[one[0]], one[5], tuple([number + by[one[0]] for number in one[6]]),
                   tuple([number + by[one[0]] for number in one[7]])) + one[8:]
        for one in state[1]])
    return (ways, senders)


def like(state):
    return moved(state, {sender[0]: -sender[4] for sender in state[1]})


def again(plan, most):
    """The least t that comes again, with its s, looked for among all pairs."""
    likes = [like(state) for state, counted in walked(plan, most)]
    for t in range(1, most + 1):
        for s in range(t):
            if likes[s] == likes[t]:
                return (s, t)
    return None


def told(plan, pair):
    """What point 17 tells of a round, by its pair of state and totals."""
    state, counted = pair
    senders = tuple((row[0], kept[2]) + row[1:] for row, kept in zip(counted, state[1]))
    return (senders, tuple((way[0], len(kept[1])) for way, kept in zip(plan[1], state[0])))
