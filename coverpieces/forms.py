"""Forms: a few spots, put to the least row and column, that hang together."""

from coverpieces.basics import is_sign, is_whole

MOST_SPOTS = 6


def touches(cell, other):
    """Whether two cells lie side by side."""
    return abs(cell[0] - other[0]) + abs(cell[1] - other[1]) == 1


def around(cell):
    """The four cells that touch a cell, in reading order."""
    row = cell[0]
    column = cell[1]
    return [(row - 1, column), (row, column - 1), (row, column + 1), (row + 1, column)]


def formed(spots):
    """The spots shifted so that the least row and column are 0, sorted."""
    top = min([spot[0] for spot in spots], default=0)
    left = min([spot[1] for spot in spots], default=0)
    return tuple(sorted([(row - top, column - left, sign) for row, column, sign in spots]))


def is_form(found):
    """Whether something, whatever it is, is a form."""
    if not isinstance(found, tuple) or not 1 <= len(found) <= MOST_SPOTS:
        return False
    if not all([is_spot(spot) for spot in found]):
        return False
    cells = [(row, column) for row, column, sign in found]
    if len(set(cells)) < len(cells):
        return False
    return found == formed(found) and hang_together(cells)


def is_spot(found):
    """Whether something is a row, a column and a sign."""
    if not isinstance(found, tuple) or len(found) != 3:
        return False
    return is_whole(found[0]) and is_whole(found[1]) and is_sign(found[2])


def hang_together(cells):
    """Whether from the first cell a way over cells that touch leads to each other one."""
    reached = cells[:1]
    missing = cells[1:]
    near = reached
    while near:
        near = [cell for cell in missing if touches_any(cell, reached)]
        reached = reached + near
        missing = [cell for cell in missing if cell not in near]
    return missing == []


def touches_any(cell, others):
    """Whether a cell touches one of the others."""
    return any([touches(cell, other) for other in others])
