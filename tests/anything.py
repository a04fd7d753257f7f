"""Things of any kind, for what is told of anything."""


class Awkward:
    """A thing that can be asked nothing: it fails at each comparison, count and truth test."""

    def fail(self, *more):
        raise RuntimeError("asked of an awkward thing")

    __eq__ = __ne__ = __lt__ = __gt__ = __le__ = __ge__ = fail
    __len__ = __bool__ = __iter__ = __getitem__ = __hash__ = __contains__ = fail


def deep(kind, depth=30):
    """A tuple or list nested so deep."""
    thing = kind([])
    for turn in range(depth - 1):
        thing = kind([thing])
    return thing


def things():
    """Things of which none is a name, fraction, rule, way or plan."""
    return [
        None, True, False, 0, 1, -1, 7, 10 ** 30, 1.0, 0.5, float("nan"), float("inf"), 1j,
        "", " ", "A", "still", "step ", "1/2", "nine letters", b"", b"a", bytearray(b"a"),
        (), (1,), (None,), ((),), [], [1, 2], {}, {"a": 1}, set(), frozenset([1]), range(2),
        object(), Awkward(), (Awkward(), Awkward()), ("still", Awkward()), len, int, Awkward, lambda: 1, Ellipsis,
        NotImplemented, deep(tuple), deep(list), (deep(list), deep(tuple)), ([], {}), iter([]), ValueError("x"),
    ]


def wrong_for(part):
    """What may not stand where the part of a right thing stands: it has the wrong kind, or is too long or short."""
    wrongs = [True, False, 1.0, b"a", [], {}, "", "?", object(), Awkward(), deep(tuple), deep(list), ((), ()),
              (None, None)]
    if part is not None:
        wrongs.append(None)
    if isinstance(part, tuple):
        wrongs += [list(part), part + (None,), part + ((1, 1),), part[1:], part[:-1], (part,)]
    else:
        wrongs += [(), (1, 1), (part,), [part]]
    if isinstance(part, int):
        wrongs += [float(part), str(part)]
    if isinstance(part, str):
        wrongs += [1, part.upper(), part + " ", part.encode()]
    return wrongs


def others_for(part):
    """What is of the kind of a part, but not the same."""
    if isinstance(part, int):
        return [part + 1, part - 1, -part - 7]
    if isinstance(part, str):
        return ["zz", part + "a"]
    if part is None:
        return [0]
    others = [part + part[-1:], part[::-1], part[1:], part + ((),)]
    if len(part) == 2 and all(type(one) is int for one in part):
        others += [(2 * part[0], 2 * part[1]), (-part[0], -part[1])]
    return others


def replaced(thing, wrongs, path=()):
    """Pairs (path, thing), in each the part at the path replaced by one of those that wrongs tells for it."""
    told = [(path, wrong) for wrong in wrongs(thing) if repr(wrong) != repr(thing)]
    if isinstance(thing, tuple):
        for place, part in enumerate(thing):
            for where, wrong in replaced(part, wrongs, path + (place,)):
                told.append((where, thing[:place] + (wrong,) + thing[place + 1:]))
    return told


def spoiled(thing):
    """Pairs (path, spoiled thing): in it the part at the path, of whatever depth, is of a wrong kind or length."""
    return replaced(thing, wrong_for)


def changed(thing):
    """Pairs (path, changed thing): in it the part at the path, of whatever depth, is another one."""
    return replaced(thing, others_for)
