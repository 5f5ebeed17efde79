"""Cases: a laying that keeps a puzzle, or a tree that shows, need by need, that there is none."""

from coverpieces.floors import must_be, open_cells
from coverpieces.forms import around
from coverpieces.judge import covers_by_cell
from coverpieces.numbers import laying_in
from coverpieces.placements import placements, served_by
from coverpieces.table import table


def going(puzzle, laid):
    """The placements that go with what is laid, sorted."""
    free = with_room(puzzle, laid, placements(puzzle))
    for placement in laid:
        free = going_beside(puzzle, placement, free)
    return free


def with_room(puzzle, laid, free):
    """Those placements of whose kind fewer than most are laid."""
    numbers = [number for spots, number in laid]
    full = [k for k, kind in enumerate(puzzle[1]) if kind[2] is not None and numbers.count(k) >= kind[2]]
    return [placement for placement in free if placement[1] not in full]


def going_beside(puzzle, placement, free):
    """Those placements that have no cell in common with a laid one, and no spot that it bars."""
    barred = barred_by(puzzle[2], placement)
    return [other for other in free if not has_barred(barred, other)]


def barred_by(apart, placement):
    """The cells that no placement beside this one may have, and the spots that none may have."""
    barred = {}
    for row, column, sign in placement[0]:
        barred[(row, column)] = True
        for cell in around((row, column)):
            for other in signs_apart(apart, sign):
                barred[cell + (other,)] = True
    return barred


def signs_apart(apart, sign):
    """The signs that may not touch a sign."""
    return [other for one, other in apart if one == sign] + [one for one, other in apart if other == sign]


def has_barred(barred, placement):
    """Whether a cell or a spot of a placement is barred."""
    return any([spot in barred or spot[:2] in barred for spot in placement[0]])


def right_tree(puzzle, laid, tree):
    """Whether a tree is right for what is laid."""
    return is_laid_well(puzzle, laid) and is_right(puzzle, laid, going(puzzle, laid), tree)


def is_laid_well(puzzle, laid):
    """Whether each placement goes with those laid ahead of it."""
    return all([placement in going(puzzle, laid[:k]) for k, placement in enumerate(laid)])


def is_right(puzzle, laid, free, tree):
    """Whether a tree is right for what is laid, where free are the placements that go with it."""
    needs = open_needs(puzzle, laid, free)
    need = (tree[0], tree[1])
    if need not in needs or [placement for placement, below in tree[2]] != needs[need]:
        return False
    for placement, below in tree[2]:
        # No branch is looked into ahead of its placement, so a tree goes no deeper than there are cells.
        if not is_right(puzzle, laid + [placement], free_behind(puzzle, laid, free, placement), below):
            return False
    return True


def open_needs(puzzle, laid, free):
    """What is still asked for, cells and kinds as a tree names them, each with the free placements that serve it."""
    needs = {}
    covered = covers_by_cell(laid)
    for cell in open_cells(puzzle[0]):
        if must_be(puzzle[0], cell) and cell not in covered:
            needs[("cell", cell)] = []
    numbers = [number for spots, number in laid]
    for k, kind in enumerate(puzzle[1]):
        if numbers.count(k) < kind[1]:
            needs[("kind", k)] = []
    for placement in free:
        for need in served_by(placement):
            if need in needs:
                needs[need].append(placement)
    return needs


def free_behind(puzzle, laid, free, placement):
    """Those of the free placements that go with a further one too."""
    return with_room(puzzle, laid + [placement], going_beside(puzzle, placement, free))


def cases(puzzle):
    """A laying that keeps the puzzle, or a tree that shows that there is none."""
    rows = table(puzzle)
    if rows[0][2] > 0:
        return ("some", laying_in(rows, 0))
    return ("none", grown(puzzle, [], going(puzzle, [])))


def grown(puzzle, laid, free):
    """A right tree for what is laid, where free are the placements that go with it and no laying holds it."""
    needs = open_needs(puzzle, laid, free)
    # There is a need: else what is laid would keep the puzzle. The fewer branches it has, the smaller the tree.
    need = min(needs, key=lambda asked: len(needs[asked]))
    branches = []
    for placement in needs[need]:
        below = grown(puzzle, laid + [placement], free_behind(puzzle, laid, free, placement))
        branches.append((placement, below))
    return (need[0], need[1], branches)
