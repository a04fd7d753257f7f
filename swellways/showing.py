"""Texts: how plans, and the things in them, are written."""

from swellways.places import GRID, NAME, ROAD, RULE, SENDERS, WAYS


def show_fraction(one):
    """A fraction as it is written."""
    top = one[0]
    bottom = one[1]
    return f"{top}" if bottom == 1 else f"{top}/{bottom}"


def show_part(part):
    """A text, a whole number, a fraction or None as it is written."""
    if part is None:
        return "-"
    return show_fraction(part) if isinstance(part, tuple) else str(part)


def show_parts(parts):
    """Texts, whole numbers, fractions and None as they are written, with blanks between."""
    return " ".join([show_part(part) for part in parts])


def show_sender(sender):
    """A sender as it is written."""
    return show_parts(("sender", sender[NAME], ",".join(sender[ROAD])) + sender[ROAD + 1:RULE] + sender[RULE])


def show_plan(plan):
    """A plan as it is written."""
    rows = [show_parts(("grid", plan[GRID]))]
    rows.extend([show_parts(("way",) + way) for way in plan[WAYS]])
    rows.extend([show_sender(sender) for sender in plan[SENDERS]])
    return "\n".join(rows)
