"""What several tests need."""

import functools
import itertools

from coverpieces.judge import judged
from coverpieces.placements import placements


class Unequal:
    """A thing that can't be held against another one."""

    def __eq__(self, other):
        raise RuntimeError("not to be asked")


def form_of(picture):
    """The form of a picture: rows with a / between, a point where no cell is."""
    return spots_at(picture, 0, 0)


def spots_at(picture, top, left):
    """The spots of a picture whose first sign lies at a told row and column."""
    spots = []
    for row, signs in enumerate(picture.split("/")):
        for column, sign in enumerate(signs):
            if sign != ".":
                spots.append((top + row, left + column, sign))
    return tuple(spots)


def at(picture, row, column, number=0):
    """A placement by its picture, the place of the picture's first sign, and its kind's number."""
    return (spots_at(picture, row, column), number)


def kind(least, most, mode, picture, name="a"):
    return (name, least, most, mode, form_of(picture))


def kinds_of(*bounds):
    """Kinds by tuples (least, most, mode, picture), named a, b, c and so on."""
    return tuple([kind(*told, name="abcdef"[k]) for k, told in enumerate(bounds)])


def puzzle_of(floor, kinds, *pairs):
    """A puzzle by its floor's rows, its kinds, and pairs of signs written side by side."""
    return (tuple(floor.split("/")), tuple(kinds), tuple([tuple(pair) for pair in pairs]))


@functools.lru_cache(maxsize=None)
def tried_layings(puzzle):
    """All layings that keep a puzzle, by trying all sets of placements, each as a tuple."""
    known = placements(puzzle)
    cells = "".join(puzzle[0]).replace("#", "")
    found = []
    for many in range(len(cells) + 1):
        for laying in itertools.combinations(known, many):
            if judged(puzzle, list(laying)) == ("good",):
                found.append(laying)
    return tuple(found)


# Small enough that all sets of their placements can be tried.
SMALL = (
    puzzle_of("#", kinds_of((0, None, "still", "A"))),
    puzzle_of("##/##", kinds_of((1, None, "still", "A"))),
    puzzle_of(".", kinds_of((0, None, "still", "A"))),
    puzzle_of(".", kinds_of((0, 0, "still", "A"))),
    puzzle_of(",", kinds_of((0, 1, "still", "A"), (0, None, "flip", "B"))),
    puzzle_of("a", kinds_of((0, 1, "still", "A"), (0, None, "flip", "B"))),
    puzzle_of("B", kinds_of((0, 1, "still", "A"), (0, None, "flip", "B"))),
    puzzle_of("../..", kinds_of((0, None, "turn", "AB"))),
    puzzle_of("../..", kinds_of((0, None, "turn", "AB")), "AA"),
    puzzle_of("../..", kinds_of((0, None, "turn", "AB")), "AB"),
    puzzle_of(",,/,,", kinds_of((1, 1, "turn", "AB")), "AA", "BB"),
    puzzle_of(",,/,,", kinds_of((1, 2, "turn", "AA"), (0, 1, "still", "B"))),
    puzzle_of(".../...", kinds_of((0, None, "turn", "AA"))),
    puzzle_of(".../...", kinds_of((2, 2, "flip", "AA/A."), (0, None, "still", "A"))),
    puzzle_of(".,./.#.", kinds_of((1, 2, "turn", "AA"), (0, 2, "still", "B")), "BB"),
    puzzle_of(",,,/,,,", kinds_of((2, None, "still", "A")), "AA"),
    puzzle_of(",,,/,,,", kinds_of((2, 3, "still", "A")), "AA"),
    puzzle_of(",,,,", kinds_of((1, None, "still", "A"), (0, None, "still", "B")), "AB"),
    puzzle_of(",/,/,/,", kinds_of((1, None, "still", "A"), (1, 2, "still", "B")), "AA", "BB"),
    puzzle_of(",,,/,a,", kinds_of((0, None, "turn", "AB"))),
    puzzle_of(",#,/#,#/,#,", kinds_of((0, 3, "still", "A"), (1, None, "still", "B")), "AA", "AB", "BB"),
    puzzle_of("a,A/,#b", kinds_of((0, None, "turn", "AB"), (0, 1, "still", "B")), "BB"),
    puzzle_of(",,,/,,,", kinds_of((1, None, "still", ".A/BB"), (0, 1, "still", "A./AB"))),
    puzzle_of("..../....", kinds_of((0, None, "still", "A/A"), (2, 2, "still", "BB"))),
    puzzle_of(".,.,", kinds_of((0, 1, "flip", "ABC"), (1, 1, "still", "C"), (0, None, "still", "D")), "CC", "CD"),
    puzzle_of(",,,,,", kinds_of((1, None, "still", "A"), (1, None, "still", "AB"))),
    puzzle_of("...", kinds_of((3, 3, "still", "A"), (1, 1, "still", "B"))),
    puzzle_of("...", kinds_of((0, 1, "still", "A"), (0, 1, "still", "B"))),
    puzzle_of(",,.", kinds_of((2, None, "still", "A"), (2, None, "turn", "AB"))),
)

# Small puzzles that no laying keeps, each for another cause.
BARRED = (
    puzzle_of(".", kinds_of((0, 0, "still", "A"))),
    puzzle_of("B", kinds_of((0, None, "still", "A"))),
    puzzle_of("##/##", kinds_of((1, None, "still", "A"))),
    puzzle_of("...", kinds_of((0, None, "turn", "AA"))),
    puzzle_of("../..", kinds_of((0, None, "turn", "AA/A."))),
    puzzle_of("../..", kinds_of((0, None, "turn", "AB")), "AA", "AB", "BB"),
    puzzle_of(",,,", kinds_of((2, 2, "still", "AA"))),
    puzzle_of(",,/,,", kinds_of((3, None, "turn", "AB"))),
    puzzle_of(",,,/,,,", kinds_of((3, 3, "still", "A"), (1, 1, "still", "A")), "AA"),
    puzzle_of("...", kinds_of((3, 3, "still", "A"), (1, 1, "still", "B"))),
    puzzle_of("...", kinds_of((0, 1, "still", "A"), (0, 1, "still", "B"))),
    puzzle_of(",,.", kinds_of((2, None, "still", "A"), (2, None, "turn", "AB"))),
    puzzle_of("#.../..../..../...#", kinds_of((0, None, "turn", "AA"))),
    puzzle_of("..../....", kinds_of((1, 1, "still", "AA"), (3, 3, "still", "A/A"))),
    puzzle_of("A.A", kinds_of((0, None, "turn", "AB"), (0, 1, "still", "C")), "BC"),
    puzzle_of(".,./,#,/.,.", kinds_of((0, 3, "still", "A"), (0, None, "still", "BB")), "AB"),
)
