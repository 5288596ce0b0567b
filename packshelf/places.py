"""Places `(shelf, up, left, turned)`: their one order, and the first one that fits."""

from packshelf.shapes import inside, overlap


def comes_ahead(shelves, one, other):
    """Whether the place one comes ahead of the place other."""
    if one[0] != other[0]:
        return one[0] < other[0]
    habit = shelves[one[0]][2]
    return _rank(habit, one) < _rank(habit, other)


def _rank(habit, place):
    """What puts the places of one shelf in order: the lesser rank comes ahead."""
    _, up, left, turned = place
    if habit == "low":
        return (up, left, turned)
    return (left, up, turned)


def first_spot(outlines, shelf, wide, high):
    """The first pair `(up, left)`, by the shelf's habit, at which such an outline fits, or None."""
    width, height, habit = shelf
    if habit == "low":
        return _lowest_spot(outlines, width, height, wide, high)
    # With columns and rows swapped the leftmost spot is the lowest one, so one search serves both habits.
    swapped = _lowest_spot([_swapped(row) for row in outlines], height, width, high, wide)
    if swapped is None:
        return None
    left, up = swapped
    return (up, left)


def _swapped(outline):
    """The outline with its columns for rows and its rows for columns."""
    left, up, wide, high = outline
    return (up, left, high, wide)


def _lowest_spot(outlines, width, height, wide, high):
    """The pair `(up, left)` of the least up, then the least left, at which such an outline fits, or None."""
    by_left = sorted(outlines)
    for up in _ups_to_try(outlines):
        left = _least_left(by_left, up, wide, high)
        if inside((left, up, wide, high), width, height):
            return (up, left)
    return None


def _ups_to_try(outlines):
    """All rows that can be the least up of a spot, in order."""
    # Above row nought, a spot that no outline ends right below could be one row lower, so it is not the least.
    ends = sorted({row[1] + row[3] for row in outlines})
    return [0] + [end for end in ends if end > 0]


def _least_left(by_left, up, wide, high):
    """The least left, from nought, at which such an outline overlaps none, whatever the shelf's width."""
    left = 0
    # In the order of their lefts, what is behind us can never overlap again: moving on only leads away from it.
    for row in by_left:
        if overlap(row, (left, up, wide, high)):
            left = row[0] + row[2]
    return left


def first_place(shelves, rows, width, height, turns):
    """The first place of such a box among the outlines of all shelves, or None."""
    ways = _ways(width, height, turns)
    for number in range(len(shelves)):
        place = _first_on_shelf(shelves, number, rows[number], ways)
        if place is not None:
            return place
    return None


def _ways(width, height, turns):
    """How the box may stand: tuples `(wide, high, turned)`, upright first."""
    if turns:
        return [(width, height, False), (height, width, True)]
    return [(width, height, False)]


def _first_on_shelf(shelves, number, outlines, ways):
    """The first place, on the shelf of that number, of a box that may stand in those ways, or None."""
    first = None
    for wide, high, turned in ways:
        spot = first_spot(outlines, shelves[number], wide, high)
        if spot is not None:
            place = (number, spot[0], spot[1], turned)
            if first is None or comes_ahead(shelves, place, first):
                first = place
    return first
