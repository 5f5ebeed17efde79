"""The eight turnings, and the forms that they make of a form."""

# How many turnings, from number 0 on, each mode allows.
TURNINGS_BY_MODE = {"still": 1, "turn": 4, "flip": 8}


def turned(form, t):
    """The form turned by the turning of number t, from 0 to 7."""
    spots = list(form)
    if t >= 4:
        spots = mirrored(spots)
    for step in range(t % 4):
        spots = turned_right(spots)
    return tuple(sorted(spots))


def mirrored(spots):
    """The spots with left and right changed for one another."""
    last = max([spot[1] for spot in spots], default=0)
    return [(row, last - column, sign) for row, column, sign in spots]


def turned_right(spots):
    """The spots turned once to the right."""
    last = max([spot[0] for spot in spots], default=0)
    return [(column, last - row, sign) for row, column, sign in spots]


def then(t, s):
    """The turning that does t and then s."""
    # Mirroring what is turned to the right is turning to the left what is mirrored.
    turns = s - t if s >= 4 else s + t
    return numbered((t >= 4) != (s >= 4), turns)


def undoing(t):
    """The turning that undoes t."""
    # A turning that mirrors undoes itself.
    return numbered(True, t) if t >= 4 else numbered(False, -t)


def numbered(mirrors, turns):
    """The number of the turning that mirrors or doesn't, and then turns so many times."""
    return turns % 4 + (4 if mirrors else 0)


def is_mode(found):
    """Whether something is a mode."""
    return isinstance(found, str) and found in TURNINGS_BY_MODE


def forms_of(form, mode):
    """The unlike forms that the mode's turnings make of the form, sorted."""
    return sorted(set([turned(form, t) for t in range(TURNINGS_BY_MODE[mode])]))
