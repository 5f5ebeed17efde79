"""Puzzles written as texts, and read from them."""

from coverpieces.basics import is_numeral, is_sign
from coverpieces.errors import NoPuzzle, NoText
from coverpieces.floors import floor_spots
from coverpieces.forms import formed
from coverpieces.puzzles import is_puzzle

MOST_FIGURES = 2
ENDLESS = "any"
NO_CELL = "."


def read(text):
    """The puzzle that a text writes, or a refusal."""
    if not isinstance(text, str):
        raise NoText("only a text writes a puzzle")
    lines = [line.split(" ") for line in text.split("\n")]
    pieces = [words for words in lines if words[0] == "piece"]
    pairs = [words for words in lines if words[0] == "apart"]
    # A line out of its place, or of no sort, makes these unlike.
    if lines != lines[:1] + pieces + pairs or not are_lines(lines[0], pieces, pairs):
        raise NoText("the text is not of a puzzle's form")
    kinds = tuple([read_kind(words) for words in pieces])
    puzzle = (tuple(lines[0][1].split("/")), kinds, tuple([tuple(words[1:]) for words in pairs]))
    if not is_puzzle(puzzle):
        raise NoPuzzle("what the text writes is no puzzle")
    return puzzle


def are_lines(first, pieces, pairs):
    """Whether the words of the first line, of the pieces' and of the pairs' lines are as told."""
    if not is_line(first, "floor", 1):
        return False
    return all([is_piece_line(words) for words in pieces]) and all([is_line(words, "apart", 2) for words in pairs])


def is_line(words, first, more):
    """Whether words are a told first one and so many more, none without signs."""
    return words[0] == first and len(words) == 1 + more and "" not in words


def is_piece_line(words):
    """Whether words are those of a piece, whatever its name, its mode and its form are."""
    if not is_line(words, "piece", 5) or not is_numeral(words[2], MOST_FIGURES):
        return False
    return (words[3] == ENDLESS or is_numeral(words[3], MOST_FIGURES)) and is_picture(words[5])


def is_picture(word):
    """Whether a word is rows of one length, of great letters and points."""
    rows = word.split("/")
    if "" in rows or not all([len(row) == len(rows[0]) for row in rows]):
        return False
    return all([sign == NO_CELL or is_sign(sign) for sign in "".join(rows)])


def read_kind(words):
    """The kind that a piece's words write, if it is one."""
    most = None if words[3] == ENDLESS else int(words[3])
    return (words[1], int(words[2]), most, words[4], read_form(words[5]))


def read_form(picture):
    """The form of a picture's spots, if they are those of one."""
    return formed([spot for spot in floor_spots(picture.split("/")) if spot[2] != NO_CELL])


def shown(puzzle):
    """The text that writes a puzzle."""
    rows = "/".join(puzzle[0])
    pieces = [shown_kind(kind) for kind in puzzle[1]]
    pairs = [f"apart {one} {other}" for one, other in puzzle[2]]
    return "\n".join([f"floor {rows}"] + pieces + pairs)


def shown_kind(kind):
    """The line that writes a kind."""
    most = ENDLESS if kind[2] is None else str(kind[2])
    return " ".join(["piece", kind[0], str(kind[1]), most, kind[3], shown_form(kind[4])])


def shown_form(form):
    """The smallest picture of a form."""
    signs = {}
    for row, column, sign in form:
        signs[(row, column)] = sign
    last_row = max([spot[0] for spot in form], default=0)
    last_column = max([spot[1] for spot in form], default=0)
    return "/".join([shown_row(signs, row, last_column) for row in range(last_row + 1)])


def shown_row(signs, row, last_column):
    """One row of a picture, from the signs by their cells."""
    return "".join([signs.get((row, column), NO_CELL) for column in range(last_column + 1)])
