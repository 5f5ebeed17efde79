"""States: what is half laid while a puzzle's cells are decided one after the other, in reading order."""

from coverpieces.floors import must_be, open_cells
from coverpieces.forms import around
from coverpieces.placements import placements
from coverpieces.puzzles import is_kept_apart

UNDECIDED = "?"
DONE = "-"


class Ground:
    """A puzzle's open cells by their places in the marks, made once for all states that are asked about."""

    def __init__(self, puzzle):
        self.kinds = puzzle[1]
        self.apart = puzzle[2]
        self.places = {}
        for place, cell in enumerate(open_cells(puzzle[0])):
            self.places[cell] = place
        self.near = [near_places(self.places, cell) for cell in self.places]


def near_places(places, cell):
    """The places of the open cells that touch a cell."""
    return [places[other] for other in around(cell) if other in places]


def begin(puzzle):
    """The state in which no cell is decided and none are laid."""
    marks = UNDECIDED * len(open_cells(puzzle[0]))
    return (marks, tuple([used_of(kind, 0) for kind in puzzle[1]]))


def used_of(kind, laid):
    """How many of a kind are used where so many are laid: beyond least they count only where there is a most."""
    return min(laid, kind[1]) if kind[2] is None else laid


def options(puzzle, state):
    """What may be done with the first undecided cell of a state: None, where it may be left, then placements."""
    return options_among(Ground(puzzle), starting_options(puzzle), state)


def starting_options(puzzle):
    """For each open cell, by its place, what may be done with it as long as nothing is laid."""
    starts = {}
    for cell in open_cells(puzzle[0]):
        starts[cell] = [] if must_be(puzzle[0], cell) else [None]
    for placement in placements(puzzle):
        # A form without spots lies nowhere first.
        for row, column, sign in placement[0][:1]:
            starts[(row, column)].append(placement)
    return list(starts.values())


def options_among(ground, starts, state):
    """The options of a state, among those that each cell has at the start."""
    if ended(state):
        return []
    return [option for option in starts[first_undecided(state)] if goes(ground, state, option)]


def first_undecided(state):
    """The place of a state's first undecided cell."""
    return state[0].find(UNDECIDED)


def goes(ground, state, option):
    """Whether an option at the first undecided cell goes with what is laid."""
    if option is None:
        return True
    most = ground.kinds[option[1]][2]
    if most is not None and state[1][option[1]] >= most:
        return False
    taken = covers(ground, option)
    if any([state[0][place] != UNDECIDED for place, sign in taken]):
        return False
    return not any([is_barred(ground, state[0], place, sign) for place, sign in taken])


def covers(ground, placement):
    """The places that a placement covers, each with its sign."""
    return [(ground.places[(row, column)], sign) for row, column, sign in placement[0]]


def is_barred(ground, marks, place, sign):
    """Whether an undecided cell touches a covered one whose sign may not touch the told one."""
    # A covered cell that touches this one still shows its sign, and no other mark is one of a pair.
    return any([is_kept_apart(ground.apart, sign, marks[other]) for other in ground.near[place]])


def behind(puzzle, state, option):
    """The state behind an option of a state."""
    return behind_on(Ground(puzzle), state, option)


def behind_on(ground, state, option):
    """The state behind an option, by the puzzle's ground."""
    if option is None:
        return (marks_behind(ground, state[0], [(first_undecided(state), DONE)]), state[1])
    return (marks_behind(ground, state[0], covers(ground, option)), used_behind(ground.kinds, state[1], option[1]))


def marks_behind(ground, marks, decided):
    """The marks where further places are decided, each with its sign or left."""
    signs = list(marks)
    for place, sign in decided:
        signs[place] = sign
    for place, sign in decided:
        # No other cell has lost an undecided one beside it.
        for other in [place] + ground.near[place]:
            if signs[other] != UNDECIDED and not touches_undecided(ground, signs, other):
                signs[other] = DONE
    return "".join(signs)


def touches_undecided(ground, signs, place):
    """Whether a cell touches an undecided one."""
    return any([signs[other] == UNDECIDED for other in ground.near[place]])


def used_behind(kinds, used, number):
    """The used numbers where one more of the kind of a number is laid."""
    return used[:number] + (used_of(kinds[number], used[number] + 1),) + used[number + 1:]


def ended(state):
    """Whether no cell is undecided."""
    return UNDECIDED not in state[0]


def undecided_cells(state):
    """How many cells are undecided."""
    return state[0].count(UNDECIDED)


def ends_well(puzzle, state):
    """Whether no cell is undecided and enough of each kind are laid."""
    return ended(state) and all([laid >= kind[1] for laid, kind in zip(state[1], puzzle[1])])
