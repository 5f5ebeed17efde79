"""Whole numbers and letters, as every other file asks for them."""

FIGURES = "0123456789"


def is_whole(found):
    """Whether something is a whole number."""
    # Python takes True and False for 1 and 0.
    return isinstance(found, int) and not isinstance(found, bool)


def is_sign(found):
    """Whether something is a text of one great letter, A to Z."""
    return isinstance(found, str) and len(found) == 1 and "A" <= found <= "Z"


def is_small(found):
    """Whether something is a text of one small letter, a to z."""
    return isinstance(found, str) and len(found) == 1 and "a" <= found <= "z"


def is_numeral(word, most):
    """Whether a text is a number of one to so many figures, the first one no 0 but for 0 itself."""
    if not 1 <= len(word) <= most or not all([sign in FIGURES for sign in word]):
        return False
    return word == "0" or word[0] != "0"
