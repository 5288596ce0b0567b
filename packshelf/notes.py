"""Notes: a rack written as rows of words, and read from them."""

from packshelf.errors import NoNote
from packshelf.racks import HABITS, Rack

FIGURES = "0123456789"
MOST_FIGURES = 7


def written(rack):
    """The rack as a text: a row for each shelf, then one for each box."""
    rows = [f"shelf {width} {height} {habit}\n" for width, height, habit in rack.told_shelves()]
    rows.extend([_box_row(rack, name) for name in rack.names()])
    return "".join(rows)


def _box_row(rack, name):
    """The row of the box of that name."""
    _, width, height, turns = rack.box(name)
    number, up, left, turned = rack.where(name)
    may = "turns" if turns else "stays"
    way = "turned" if turned else "upright"
    return f"box {name} {width} {height} {may} {number} {up} {left} {way}\n"


def read(text):
    """The rack that the text tells of."""
    # The whole text is looked through first: NoNote goes ahead of all that the rack refuses.
    shelves, boxes = _parts(text)
    rack = Rack(shelves)
    for name, width, height, turns, place in boxes:
        rack.put_at(name, width, height, turns, place)
    return rack


def _parts(text):
    """The shelves, and the boxes with their places, that the rows of the text tell of."""
    shelves = []
    boxes = []
    for row in _rows(text):
        words = row.split(" ")
        if words[0] == "shelf" and not boxes:
            shelves.append(_shelf(words))
        elif words[0] == "box":
            boxes.append(_box(words))
        else:
            raise NoNote(f"no row of a rack: {row}")
    if not shelves:
        raise NoNote("no row of a shelf")
    return shelves, boxes


def _rows(text):
    """The rows of the text, without their line ends."""
    # Other signs that split lines elsewhere (splitlines) end no row here.
    rows = text.split("\n")
    if rows.pop() != "":
        raise NoNote("the last row has no line end")
    return rows


def _shelf(words):
    """The shelf that the words of a row tell of."""
    if len(words) != 4:
        raise NoNote(f"no row of a shelf: {words}")
    _, width, height, habit = words
    if habit not in HABITS:
        raise NoNote(f"no habit: {habit}")
    return (_number(width), _number(height), habit)


def _box(words):
    """The box and its place, a tuple `(name, width, height, turns, place)`, that the words of a row tell of."""
    if len(words) != 9 or words[1] == "":
        raise NoNote(f"no row of a box: {words}")
    _, name, width, height, may, number, up, left, way = words
    turns = _yes_or_no(may, "turns", "stays")
    place = (_number(number), _number(up), _number(left), _yes_or_no(way, "turned", "upright"))
    return (name, _number(width), _number(height), turns, place)


def _yes_or_no(word, yes, no):
    """True for the word yes, False for the word no."""
    if word not in (yes, no):
        raise NoNote(f"neither {yes} nor {no}: {word}")
    return word == yes


def _number(word):
    """The number that the word writes."""
    if not 1 <= len(word) <= MOST_FIGURES or not all(sign in FIGURES for sign in word):
        raise NoNote(f"no number: {word}")
    if word[0] == "0" and word != "0":
        raise NoNote(f"a nought ahead: {word}")
    return int(word)
