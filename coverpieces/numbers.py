"""Layings by number: each laying that keeps a puzzle told by its number, and back."""

from coverpieces.errors import NoLaying, NoNumber
from coverpieces.judge import judged
from coverpieces.table import table


def laying_of(puzzle, number):
    """The laying of a number, or a refusal."""
    rows = table(puzzle)
    if not 0 <= number < rows[0][2]:
        raise NoNumber("no laying has this number")
    return laying_in(rows, number)


def laying_in(rows, number):
    """The laying of a number that there is, by a table's rows."""
    laying = []
    row = rows[0]
    left = number
    while row[1]:
        k = choice_of(rows, row[1], left)
        left -= count_ahead(rows, row[1], k)
        option = row[1][k][0]
        row = rows[row[1][k][1]]
        if option is not None:
            # First cells come in reading order, so the laying comes out sorted.
            laying.append(option)
    return laying


def choice_of(rows, choices, number):
    """The place of the choice that leads to the laying of a number, counted among those behind all the choices."""
    k = 0
    while number >= count_ahead(rows, choices, k + 1):
        k += 1
    return k


def count_ahead(rows, choices, k):
    """How many layings come ahead of those behind the choice at place k."""
    return sum([rows[after][2] for option, after in choices[:k]])


def number_of(puzzle, laying):
    """The number of a laying, its placements in any order, or a refusal."""
    if judged(puzzle, laying) != ("good",):
        raise NoLaying("the laying doesn't keep the puzzle")
    rows = table(puzzle)
    number = 0
    row = rows[0]
    while row[1]:
        k = choice_in(row[1], laying)
        number += count_ahead(rows, row[1], k)
        row = rows[row[1][k][1]]
    return number


def choice_in(choices, laying):
    """The place of the choice that a laying takes."""
    for k, choice in enumerate(choices):
        if choice[0] in laying:
            return k
    # A cell where no placement begins is left, and that choice stands first.
    return 0


def all_layings(puzzle):
    """All layings that keep a puzzle, by rising numbers."""
    rows = table(puzzle)
    return [laying_in(rows, number) for number in range(rows[0][2])]


def layings(puzzle, start=0, many=2):
    """The layings of so many numbers from start on, or of all that are left."""
    rows = table(puzzle)
    first = max(start, 0)
    return [laying_in(rows, number) for number in range(first, min(first + many, rows[0][2]))]
