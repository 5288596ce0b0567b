"""A rack by the document's words: every search goes through all places in order, cell by cell."""

from packshelf.errors import NoBox, NoRoom, NoShelf, ShelfError, Twice, Unknown
from tests.reference import cells, does_fit, place_by_trying, places_in_order

SIGNS = tuple("abcdefghijklmnopqrstuvwxyz0123456789")


def told(ask, *arguments):
    """What the call gave, or the very class that it was refused with."""
    try:
        return ("gave", ask(*arguments))
    except ShelfError as error:
        return ("refused", type(error))


class PlainRack:
    def __init__(self, shelves):
        self.shelves = list(shelves)
        self.boxes = {}
        self.places = {}

    def outline(self, name):
        if name not in self.places:
            raise Unknown(name)
        _, width, height, _ = self.boxes[name]
        _, up, left, turned = self.places[name]
        return (left, up, height, width) if turned else (left, up, width, height)

    def rows(self, but=None):
        rows = [[] for _ in self.shelves]
        for name, place in self.places.items():
            if name != but:
                rows[place[0]].append(self.outline(name))
        return rows

    def check(self, name, width, height):
        if not 1 <= len(name) <= 12 or set(name) - set(SIGNS):
            raise NoBox(name)
        if width not in range(1, 1000001) or height not in range(1, 1000001):
            raise NoBox(name)
        if name in self.boxes:
            raise Twice(name)

    def stand(self, name, width, height, turns, place):
        self.boxes[name] = (name, width, height, turns)
        self.places[name] = place

    def put(self, name, width, height, turns):
        self.check(name, width, height)
        place = place_by_trying(self.shelves, self.rows(), width, height, turns)
        if place is None:
            raise NoRoom(name)
        self.stand(name, width, height, turns, place)
        return place

    def put_at(self, name, width, height, turns, place):
        self.check(name, width, height)
        number, up, left, turned = place
        if number not in range(len(self.shelves)) or (turned and not turns):
            raise NoRoom(name)
        outline = (left, up, height, width) if turned else (left, up, width, height)
        if not does_fit(self.rows()[number], outline, self.shelves[number][0], self.shelves[number][1]):
            raise NoRoom(name)
        self.stand(name, width, height, turns, place)

    def where(self, name):
        if name not in self.places:
            raise Unknown(name)
        return self.places[name]

    def box(self, name):
        if name not in self.boxes:
            raise Unknown(name)
        return self.boxes[name]

    def take_out(self, name):
        place = self.where(name)
        del self.places[name]
        del self.boxes[name]
        return place

    def names(self):
        order = places_in_order(self.shelves)
        return sorted(self.places, key=lambda name: order.index(self.places[name]))

    def free(self, number):
        if number not in range(len(self.shelves)):
            raise NoShelf(number)
        covered = set()
        for outline in self.rows()[number]:
            covered |= cells(outline)
        width, height, _ = self.shelves[number]
        return width * height - len(covered)

    def settle(self):
        moves = []
        order = places_in_order(self.shelves)
        went = True
        while went:
            went = False
            for name in self.names():
                _, width, height, turns = self.boxes[name]
                own = self.places[name]
                first = place_by_trying(self.shelves, self.rows(name), width, height, turns)
                if order.index(first) < order.index(own):
                    self.places[name] = first
                    moves.append((name, own, first))
                    went = True
        return moves


def state(rack):
    """All that can be asked of a rack, of the one kind or the other."""
    names = rack.names()
    return (
        list(rack.shelves),
        names,
        [rack.where(name) for name in names],
        [rack.box(name) for name in names],
        [rack.outline(name) for name in names],
        [rack.free(number) for number in range(len(rack.shelves))],
    )


def is_in_order(rack):
    """Whether no two boxes on a shelf overlap, and each is inside its shelf: point 13."""
    taken = set()
    for name in rack.names():
        number = rack.where(name)[0]
        width, height, _ = rack.shelves[number]
        for column, row in cells(rack.outline(name)):
            if (number, column, row) in taken or not (0 <= column < width and 0 <= row < height):
                return False
            taken.add((number, column, row))
    return True


def drawn_place(draw, shelves, reach):
    """A place that may lie on no shelf, or stick out."""
    return (
        draw.randint(-1, len(shelves)),
        draw.randint(-1, reach),
        draw.randint(-1, reach),
        draw.choice((True, False)),
    )


def scattered(draw, shelves, tries, most, reach=6):
    """Calls of put_at that a rack of those shelves does not refuse, in the order of their drawing."""
    plain, calls = PlainRack(shelves), []
    for number in range(tries):
        turns = draw.choice((True, False))
        place = drawn_place(draw, shelves, reach)
        call = (f"n{number}", draw.randint(1, most), draw.randint(1, most), turns, place)
        if told(plain.put_at, *call) == ("gave", None):
            calls.append(call)
    return calls
