"""Placements: the forms of a puzzle's kinds, each at each place of the floor where it may lie."""

from coverpieces.floors import floor_spots, is_open, wanted
from coverpieces.turning import forms_of


def placements(puzzle):
    """All placements of a puzzle, sorted."""
    found = []
    for number, kind in enumerate(puzzle[1]):
        for form in forms_of(kind[4], kind[3]):
            found.extend([(spots, number) for spots in places(puzzle[0], form)])
    # Equal ones are one: a form without spots is the same wherever it lies.
    return sorted(set(found))


def places(floor, form):
    """The spots of a form wherever it may lie on the floor."""
    shifts = [shifted(form, row, column) for row, column, sign in floor_spots(floor)]
    return [spots for spots in shifts if may_lie(floor, spots)]


def shifted(spots, down, right):
    """The spots shifted by so many rows and columns."""
    return tuple([(row + down, column + right, sign) for row, column, sign in spots])


def may_lie(floor, spots):
    """Whether each spot may cover its cell."""
    return all([may_cover(floor, (row, column), sign) for row, column, sign in spots])


def may_cover(floor, cell, sign):
    """Whether a cell, on the floor or beside it, may be covered by a sign."""
    return is_open(floor, cell) and wanted(floor, cell) in (None, sign)


def served_by(placement):
    """The needs that a placement serves where there are such: each of its cells covered, one more of its kind laid."""
    return [("cell", (row, column)) for row, column, sign in placement[0]] + [("kind", placement[1])]
