"""Racks: shelves, and the boxes that stand on them."""

from packshelf.errors import NoBox, NoRoom, NoShelf, Twice, Unknown
from packshelf.places import comes_ahead, first_place, outline_at, rank
from packshelf.shapes import fits

HABITS = ("low", "left")
MOST_SHELVES = 9
LONGEST_SIDE = 1000000
LONGEST_NAME = 12
SIGNS = "abcdefghijklmnopqrstuvwxyz0123456789"


class Rack:
    """Shelves and the boxes on them: no two boxes overlap, and each is inside its shelf."""

    def __init__(self, shelves):
        _check_shelves(shelves)
        self.shelves = list(shelves)
        # Whoever reads the field may change that list. The rack goes by a tuple of its own instead.
        self._told = tuple(shelves)
        # A name leads to (box, place).
        self._standing = {}

    def told_shelves(self):
        """The shelves that the rack was made of, whatever was done to the field."""
        return list(self._told)

    def put(self, name, width, height, turns):
        """Put a box at its first place, and give that place."""
        self._check_new(name, width, height)
        place = first_place(self._told, self._rows_without(name), width, height, turns)
        if place is None:
            raise NoRoom(f"no place for {name}")
        self._standing[name] = ((name, width, height, turns), place)
        return place

    def put_at(self, name, width, height, turns, place):
        """Put a box at the place that is told."""
        self._check_new(name, width, height)
        if not self._takes(name, width, height, turns, place):
            raise NoRoom(f"{name} has no room at {place}")
        self._standing[name] = ((name, width, height, turns), place)

    def take_out(self, name):
        """Take a box out, and give the place at which it stood."""
        place = self.where(name)
        del self._standing[name]
        return place

    def where(self, name):
        """The place of a box."""
        return self._found(name)[1]

    def box(self, name):
        """The tuple `(name, width, height, turns)` of a box."""
        return self._found(name)[0]

    def outline(self, name):
        """The outline of a box."""
        (_, width, height, _), place = self._found(name)
        return outline_at(width, height, place)

    def names(self):
        """All names, in the order of their places."""
        ranks = [(rank(self._told, self.where(name)), name) for name in self._standing]
        return [name for _, name in sorted(ranks)]

    def free(self, number):
        """How many pairs of a column and a row of that shelf no box covers."""
        if not self._has_shelf(number):
            raise NoShelf(f"no shelf {number}")
        shelf_width, shelf_height, _ = self._told[number]
        covered = 0
        for (_, width, height, _), place in self._standing.values():
            if place[0] == number:
                covered += width * height
        return shelf_width * shelf_height - covered

    def settle(self):
        """Let the boxes go ahead, round by round, until none can; give the moves `(name, place, place)`."""
        moves = []
        while went := self._go_round():
            moves.extend(went)
        return moves

    def _go_round(self):
        """Let each box go once, in the order of the places as they stand now; give the moves."""
        moves = []
        for name in self.names():
            box, place = self._standing[name]
            _, width, height, turns = box
            first = first_place(self._told, self._rows_without(name), width, height, turns)
            if comes_ahead(self._told, first, place):
                self._standing[name] = (box, first)
                moves.append((name, place, first))
        return moves

    def _check_new(self, name, width, height):
        """Refuse what is no box, and a name that stands here already."""
        _check_box(name, width, height)
        if name in self._standing:
            raise Twice(f"{name} stands there already")

    def _found(self, name):
        """What is kept of the box of that name."""
        if name not in self._standing:
            raise Unknown(f"no box {name}")
        return self._standing[name]

    def _has_shelf(self, number):
        return 0 <= number < len(self._told)

    def _takes(self, name, width, height, turns, place):
        """Whether a box may stand at the place, among the boxes of other names."""
        number, _, _, turned = place
        if not self._has_shelf(number) or (turned and not turns):
            return False
        shelf_width, shelf_height, _ = self._told[number]
        outlines = self._rows_without(name)[number]
        return fits(outlines, outline_at(width, height, place), shelf_width, shelf_height)

    def _rows_without(self, name):
        """For each shelf the list of its outlines, but for that of the box of that name."""
        rows = [[] for _ in self._told]
        for other, (_, place) in self._standing.items():
            if other != name:
                rows[place[0]].append(self.outline(other))
        return rows


def _check_shelves(shelves):
    """Refuse shelves that a rack can't have."""
    if not 1 <= len(shelves) <= MOST_SHELVES:
        raise NoShelf(f"{len(shelves)} shelves")
    for width, height, habit in shelves:
        if not _is_side(width) or not _is_side(height) or habit not in HABITS:
            raise NoShelf(f"no shelf {width} {height} {habit}")


def _check_box(name, width, height):
    """Refuse what is no name, and a side that no box can have."""
    if not _is_name(name) or not _is_side(width) or not _is_side(height):
        raise NoBox(f"no box {name} {width} {height}")


def _is_name(text):
    return 1 <= len(text) <= LONGEST_NAME and all(sign in SIGNS for sign in text)


def _is_side(number):
    return 1 <= number <= LONGEST_SIDE
