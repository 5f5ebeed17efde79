"""Kinds of pieces, and puzzles: a floor, kinds, and pairs of signs that may not touch."""

from coverpieces.basics import is_sign, is_small, is_whole
from coverpieces.floors import is_floor
from coverpieces.forms import is_form
from coverpieces.turning import is_mode

LONGEST_NAME = 8
MOST_LAID = 64
MOST_KINDS = 6


def is_kind(found):
    """Whether something, whatever it is, is a kind."""
    if not isinstance(found, tuple) or len(found) != 5:
        return False
    return is_name(found[0]) and are_bounds(found[1], found[2]) and is_mode(found[3]) and is_form(found[4])


def is_name(found):
    """Whether something is a text of one to eight small letters."""
    if not isinstance(found, str) or not 1 <= len(found) <= LONGEST_NAME:
        return False
    return all([is_small(letter) for letter in found])


def are_bounds(least, most):
    """Whether two things tell how many of a kind are laid, at least and at most."""
    if not is_whole(least) or not 0 <= least <= MOST_LAID:
        return False
    return most is None or (is_whole(most) and least <= most <= MOST_LAID)


def is_puzzle(found):
    """Whether something, whatever it is, is a puzzle."""
    if not isinstance(found, tuple) or len(found) != 3:
        return False
    return is_floor(found[0]) and are_kinds(found[1]) and are_pairs(found[2])


def are_kinds(found):
    """Whether something is a tuple of one to six kinds with unlike names."""
    if not isinstance(found, tuple) or not 1 <= len(found) <= MOST_KINDS:
        return False
    if not all([is_kind(kind) for kind in found]):
        return False
    return len(set([kind[0] for kind in found])) == len(found)


def are_pairs(found):
    """Whether something is a tuple of pairs of signs, sorted, each once."""
    if not isinstance(found, tuple) or not all([is_pair(pair) for pair in found]):
        return False
    return list(found) == sorted(set(found))


def is_pair(found):
    """Whether something is a tuple of two signs, the first one not later than the second."""
    if not isinstance(found, tuple) or len(found) != 2:
        return False
    return is_sign(found[0]) and is_sign(found[1]) and found[0] <= found[1]


def is_kept_apart(apart, sign, other):
    """Whether two signs, in whichever order, are a pair of apart."""
    return tuple(sorted([sign, other])) in apart
