"""Whole numbers and letters, as every other file asks for them."""


def is_whole(found):
    """Whether something is a whole number."""
    # Python takes True and False for 1 and 0.
    return isinstance(found, int) and not isinstance(found, bool)


def is_sign(found):
    """Whether something is a text of one great letter, A to Z."""
    return isinstance(found, str) and len(found) == 1 and "A" <= found <= "Z"


def is_small(found):
    """Whether something is a text of one small letter, a to z."""
    return isinstance(found, str) and len(found) == 1 and "a" <= found <= "z"
