"""Ways: how they take letters in, and let them out."""

from swellways.places import IS_MARKED, MARK, NAME, PACE, ROOM, SORT


def put_behind(way, letter, ahead):
    """The letter as it stands in a way in which so many stand ahead of it."""
    if way[MARK] is None or ahead < way[MARK]:
        return letter
    return letter[:IS_MARKED] + (1,)


def taken_in(way, standing, letters):
    """A pair: the letters that stand in a way once these have come in, and those that were lost."""
    stands = list(standing)
    lost = []
    for letter in letters:
        if len(stands) >= way[ROOM]:
            lost.append(letter)
        else:
            stands.append(put_behind(way, letter, len(stands)))
    return (tuple(stands), tuple(lost))


def next_name(names, owners, last):
    """The name whose turn it is: the first one behind last, round and round, that is among the owners."""
    there = [name for name in names if name in owners]
    behind = [name for name in there if name > last]
    return behind[0] if len(behind) > 0 else there[0]


def out_by_turns(way, names, standing, last):
    """What let_out tells of a way by turns."""
    stands = list(standing)
    out = []
    name = last
    while len(stands) > 0 and len(out) < way[PACE]:
        owners = [letter[NAME] for letter in stands]
        name = next_name(names, owners, name)
        out.append(stands.pop(owners.index(name)))
    return (tuple(out), tuple(stands), name)


def let_out(way, names, standing, last):
    """The letters that a way lets out, those that stand in it then, and the name let out last."""
    if way[SORT] == "turns":
        return out_by_turns(way, names, standing, last)
    # A line keeps no turns, so it has no last.
    return (tuple(standing[:way[PACE]]), tuple(standing[way[PACE]:]), "")
