"""Likeness: layings that turnings of the floor lead to one another."""

from coverpieces.errors import NoLaying
from coverpieces.floors import floor_spots, turned_floor
from coverpieces.judge import judged
from coverpieces.numbers import all_layings
from coverpieces.states import Ground, begin, behind_on, ended, first_undecided, goes, starting_options
from coverpieces.table import counts_by_state, steps_by_state
from coverpieces.turning import forms_of, turned

MANY_TURNINGS = 8


def keeping(puzzle):
    """The turnings that keep a puzzle, rising."""
    return [t for t in range(MANY_TURNINGS) if keeps(puzzle, t)]


def keeps(puzzle, t):
    """Whether a turning keeps a puzzle: its floor and each kind's forms."""
    return turned_floor(puzzle[0], t) == puzzle[0] and all([keeps_kind(kind, t) for kind in puzzle[1]])


def keeps_kind(kind, t):
    """Whether a turning leads a kind's forms to the same forms."""
    forms = forms_of(kind[4], kind[3])
    return sorted([turned(form, t) for form in forms]) == forms


def turned_laying(puzzle, laying, t):
    """The laying turned as the floor is, sorted."""
    cells = turned_cells(puzzle[0], t)
    return sorted([turned_placement(cells, placement) for placement in laying])


def turned_cells(floor, t):
    """For each cell of the floor the one that the turning leads it to."""
    # A spot's sign stays with it when it is turned, so here each spot bears its cell as its sign.
    spots = turned([(row, column, (row, column)) for row, column, sign in floor_spots(floor)], t)
    return dict([(cell, (row, column)) for row, column, cell in spots])


def turned_placement(cells, placement):
    """The placement on the cells that its own are led to."""
    spots = [cells[(row, column)] + (sign,) for row, column, sign in placement[0]]
    return (tuple(sorted(spots)), placement[1])


def alike_layings(puzzle, laying):
    """The layings that turnings lead a laying to, one for each turning that keeps the puzzle."""
    return [turned_laying(puzzle, laying, t) for t in keeping(puzzle)]


def first_of(puzzle, laying):
    """The laying of the least number among those alike to one, or a refusal."""
    if judged(puzzle, laying) != ("good",):
        raise NoLaying("the laying doesn't keep the puzzle")
    return min(alike_layings(puzzle, laying), key=order_of)


def order_of(laying):
    """What is the less, the less the number of a sorted laying is."""
    # At the first unlike placements, the laying whose one begins later leaves the cell where the other one's begins.
    return [([(-row, -column) for row, column, sign in spots[:1]], spots, number) for spots, number in laying]


def classes(puzzle):
    """The first laying of each class, by rising numbers."""
    found = []
    seen = {}
    for laying in all_layings(puzzle):
        if tuple(laying) not in seen:
            found.append(laying)
            for other in alike_layings(puzzle, laying):
                seen[tuple(other)] = True
    return found


def kept_by(puzzle, t):
    """How many layings a turning that keeps the puzzle leads to themselves."""
    ground = Ground(puzzle)
    cells = turned_cells(puzzle[0], t)
    starts = [rings_of(cells, options) for options in starting_options(puzzle)]
    steps = steps_by_state(puzzle, lambda state: kept_steps(ground, starts, state))
    return counts_by_state(puzzle, steps)[begin(puzzle)]


def rings_of(cells, options):
    """For each option those that a turning leads it to, again and again."""
    return [ring_of(cells, option) for option in options]


def ring_of(cells, option):
    """An option and those that a turning leads it to: a laying that the turning keeps has all or none of them."""
    if option is None:
        return [None]
    ring = []
    placement = option
    while placement not in ring:
        ring.append(placement)
        placement = turned_placement(cells, placement)
    return ring


def kept_steps(ground, starts, state):
    """The rings that may begin at the first undecided cell of a state, each with the state behind it."""
    if ended(state):
        return []
    steps = [(ring, behind_ring(ground, state, ring)) for ring in starts[first_undecided(state)]]
    return [(ring, after) for ring, after in steps if after is not None]


def behind_ring(ground, state, ring):
    """The state behind all of a ring, laid one after the other, or None where one doesn't go with those laid."""
    after = state
    for option in ring:
        if not goes(ground, after, option):
            return None
        after = behind_on(ground, after, option)
    return after


def count_classes(puzzle):
    """How many classes there are."""
    turnings = keeping(puzzle)
    # Classes times turnings are the layings kept by each turning, summed, and these are counted without a laying made.
    return sum([kept_by(puzzle, t) for t in turnings]) // len(turnings)
