"""Floors: rows of signs that tell which cells are there and what may cover them."""

from coverpieces.basics import is_sign, is_small
from coverpieces.turning import turned

MOST_LINES = 8
CLOSED = "#"
COVERED = "."
FREE = ","


def is_floor(found):
    """Whether something, whatever it is, is a floor."""
    if not isinstance(found, tuple) or not 1 <= len(found) <= MOST_LINES:
        return False
    if not all([is_floor_row(row) for row in found]):
        return False
    return all([len(row) == len(found[0]) for row in found])


def is_floor_row(found):
    """Whether something is a text of one to eight signs of a floor."""
    if not isinstance(found, str) or not 1 <= len(found) <= MOST_LINES:
        return False
    return all([is_floor_sign(sign) for sign in found])


def is_floor_sign(sign):
    """Whether a text of one sign tells a cell."""
    return sign in (CLOSED, COVERED, FREE) or is_sign(sign) or is_small(sign)


def sign_at(floor, cell):
    """The floor's sign at a cell; whatever lies beside the floor is closed."""
    row = cell[0]
    column = cell[1]
    if 0 <= row < len(floor) and 0 <= column < len(floor[row]):
        return floor[row][column]
    return CLOSED


def is_open(floor, cell):
    """Whether a cell, on the floor or beside it, is an open one."""
    return sign_at(floor, cell) != CLOSED


def must_be(floor, cell):
    """Whether an open cell must be covered."""
    sign = sign_at(floor, cell)
    return sign == COVERED or is_sign(sign)


def wanted(floor, cell):
    """The sign that must cover an open cell if one does, or None where any may."""
    sign = sign_at(floor, cell)
    return sign.upper() if is_sign(sign) or is_small(sign) else None


def open_cells(floor):
    """The open cells in reading order."""
    return [(row, column) for row, column, sign in floor_spots(floor) if sign != CLOSED]


def floor_spots(floor):
    """Each cell of the floor with its sign, in reading order."""
    spots = []
    for row, signs in enumerate(floor):
        for column, sign in enumerate(signs):
            spots.append((row, column, sign))
    return spots


def turned_floor(floor, t):
    """The floor turned as a form is, cell by cell."""
    rows = {}
    # What turned tells is sorted, so each row's signs come from left to right.
    for row, column, sign in turned(floor_spots(floor), t):
        rows[row] = rows.get(row, "") + sign
    return tuple(rows.values())
