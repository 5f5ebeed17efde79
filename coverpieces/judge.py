"""Layings judged: whether they keep a puzzle, and if not, by what first."""

from coverpieces.floors import must_be, open_cells
from coverpieces.placements import placements
from coverpieces.puzzles import is_kept_apart


def strange_piece(puzzle, laying):
    """The first placement that is none of the puzzle's."""
    known = placements(puzzle)
    for k, placement in enumerate(laying):
        if placement not in known:
            return ("piece", k)
    return None


def cell_twice(puzzle, laying):
    """The first cell that is in two placements."""
    cells = covered_cells(laying)
    for cell in open_cells(puzzle[0]):
        if cells.count(cell) > 1:
            return ("twice", cell)
    return None


def covered_cells(laying):
    """The cells of a laying's placements, each as often as it is covered."""
    cells = []
    for spots, number in laying:
        cells.extend([(row, column) for row, column, sign in spots])
    return cells


def bare_cell(puzzle, laying):
    """The first cell that must be covered and isn't."""
    cells = covered_cells(laying)
    for cell in open_cells(puzzle[0]):
        if must_be(puzzle[0], cell) and cell not in cells:
            return ("bare", cell)
    return None


def touching_pair(puzzle, laying):
    """The first two cells that touch though their signs may not."""
    covers = covers_by_cell(laying)
    for cell in sorted(covers):
        # Each two cells that touch are met from the earlier one.
        for other in ((cell[0], cell[1] + 1), (cell[0] + 1, cell[1])):
            if other in covers and are_apart(puzzle[2], covers[cell], covers[other]):
                return ("apart", cell, other)
    return None


def covers_by_cell(laying):
    """For each covered cell the place in the laying of what covers it, and the sign."""
    covers = {}
    for k, placement in enumerate(laying):
        for row, column, sign in placement[0]:
            covers[(row, column)] = (k, sign)
    return covers


def are_apart(apart, cover, other):
    """Whether two covers are of unlike placements and their signs may not touch."""
    return cover[0] != other[0] and is_kept_apart(apart, cover[1], other[1])


def wrong_count(puzzle, laying):
    """The first kind of which too few or too many are laid."""
    numbers = [placement[1] for placement in laying]
    for k, kind in enumerate(puzzle[1]):
        laid = numbers.count(k)
        if laid < kind[1] or (kind[2] is not None and laid > kind[2]):
            return ("count", k)
    return None


# Each look may lean on it that those ahead of it have found nothing.
LOOKS = (strange_piece, cell_twice, bare_cell, touching_pair, wrong_count)


def judged(puzzle, laying):
    """What is wrong with a laying first, or that it keeps the puzzle."""
    for look in LOOKS:
        found = look(puzzle, laying)
        if found is not None:
            return found
    return ("good",)
