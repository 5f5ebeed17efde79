"""What several tests need."""


class Unequal:
    """A thing that can't be held against another one."""

    def __eq__(self, other):
        raise RuntimeError("not to be asked")


def form_of(picture):
    """The form of a picture: rows with a / between, a point where no cell is."""
    return spots_at(picture, 0, 0)


def spots_at(picture, top, left):
    """The spots of a picture whose first sign lies at a told row and column."""
    spots = []
    for row, signs in enumerate(picture.split("/")):
        for column, sign in enumerate(signs):
            if sign != ".":
                spots.append((top + row, left + column, sign))
    return tuple(spots)
