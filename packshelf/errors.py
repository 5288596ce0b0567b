"""What is refused, one class for each kind of refusal."""


class ShelfError(ValueError):
    """Any refusal."""


class NoShelf(ShelfError):
    """Shelves that are none, or a number that no shelf has."""


class NoBox(ShelfError):
    """A box whose name is none, or whose width or height is out of range."""


class Twice(ShelfError):
    """A box of a name that another one has already."""


class NoRoom(ShelfError):
    """A box that does not fit."""


class Unknown(ShelfError):
    """A name that no box has."""


class NoNote(ShelfError):
    """A text that is no note of a rack."""
