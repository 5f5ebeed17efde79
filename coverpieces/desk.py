"""The desk: a puzzle kept, and texts about it answered by texts."""

from coverpieces.basics import is_numeral
from coverpieces.errors import NoPuzzle, NoText
from coverpieces.floors import is_open
from coverpieces.likeness import count_classes
from coverpieces.numbers import laying_of
from coverpieces.sums import sums
from coverpieces.table import count
from coverpieces.texts import read

PLACE_SIGNS = "abcdefghijklmnopqrstuvwxyzABCDEFGHIJKLMNOPQRSTUVWXYZ0123456789+*"
NEW_PUZZLE = "puzzle\n"


def picture(puzzle, laying):
    """A text for each row of the floor: which placement covers each cell, by its place in the sorted laying."""
    signs = {}
    for place, placement in enumerate(sorted(laying)):
        for row, column, sign in placement[0]:
            # Only on a floor beyond the bounds the signs begin anew.
            signs[(row, column)] = PLACE_SIGNS[place % len(PLACE_SIGNS)]
    return tuple([picture_row(puzzle[0], signs, row) for row in range(len(puzzle[0]))])


def picture_row(floor, signs, row):
    """The text for one row of the floor, from the signs by their cells."""
    cells = [(row, column) for column in range(len(floor[row]))]
    return "".join([signs.get(cell, "-") if is_open(floor, cell) else "#" for cell in cells])


def tell_count(puzzle):
    """How many layings there are."""
    return str(count(puzzle))


def tell_laying(puzzle, number):
    """The picture of the laying of a number."""
    return "/".join(picture(puzzle, laying_of(puzzle, number)))


def tell_last(puzzle):
    """The picture of the last laying, or that there is none."""
    many = count(puzzle)
    return tell_laying(puzzle, many - 1) if many > 0 else "none"


def tell_classes(puzzle):
    """How many classes there are."""
    return str(count_classes(puzzle))


def tell_cases(puzzle):
    """Whether there are layings."""
    # The count tells it too, without a tree, which may be far greater than the table.
    return "some" if count(puzzle) > 0 else "none"


def tell_sums(puzzle, p):
    """Whether there are weights or a mixture for a prime."""
    return sums(puzzle, p)[0]


# The words that stand alone, those that a number stands behind, and how many figures it has at most.
ANSWERS = {"count": tell_count, "last": tell_last, "classes": tell_classes, "cases": tell_cases}
NUMBERED_ANSWERS = {"lay": tell_laying, "sums": tell_sums}
MOST_FIGURES = {"lay": 60, "sums": 2}


class Desk:
    """A desk, with no puzzle at first."""

    def __init__(self):
        self.puzzle = None

    def tell(self, text):
        """The answer to a text, or a refusal."""
        if not isinstance(text, str):
            raise NoText("only texts are answered")
        if text.startswith(NEW_PUZZLE):
            self.puzzle = read(text[len(NEW_PUZZLE):])
            return "ok"
        words = text.split(" ")
        if not is_asked(words):
            raise NoText("this is nothing that a desk answers")
        if self.puzzle is None:
            raise NoPuzzle("no puzzle is kept")
        return answer(self.puzzle, words)


def is_asked(words):
    """Whether words ask for something."""
    if len(words) == 1:
        return words[0] in ANSWERS
    return len(words) == 2 and words[0] in MOST_FIGURES and is_numeral(words[1], MOST_FIGURES[words[0]])


def answer(puzzle, words):
    """The answer to words that ask for something."""
    if len(words) == 1:
        return ANSWERS[words[0]](puzzle)
    return NUMBERED_ANSWERS[words[0]](puzzle, int(words[1]))
