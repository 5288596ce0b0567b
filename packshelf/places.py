"""Places `(shelf, up, left, turned)`: their one order, and the first one that fits."""

from packshelf.shapes import inside


def comes_ahead(shelves, one, other):
    """Whether the place one comes ahead of the place other."""
    if one[0] != other[0]:
        return one[0] < other[0]
    return rank(shelves, one) < rank(shelves, other)


def rank(shelves, place):
    """What puts places in order: the lesser rank comes ahead."""
    number, up, left, turned = place
    if shelves[number][2] == "low":
        return (number, up, left, turned)
    return (number, left, up, turned)


def outline_at(width, height, place):
    """The outline of a box of that width and height that stands at the place."""
    _, up, left, turned = place
    if turned:
        return (left, up, height, width)
    return (left, up, width, height)


def first_spot(outlines, shelf, wide, high):
    """The first pair `(up, left)`, by the shelf's habit, at which such an outline fits, or None."""
    width, height, habit = shelf
    if habit == "low":
        return _lowest_spot(outlines, width, height, wide, high)
    # With columns and rows swapped the leftmost spot is the lowest one, so one search serves both habits.
    swapped = _lowest_spot([_swapped(row) for row in outlines], height, width, high, wide)
    if swapped is None:
        return None
    left, up = swapped
    return (up, left)


def _swapped(outline):
    """The outline with its columns for rows and its rows for columns."""
    left, up, wide, high = outline
    return (up, left, high, wide)


def _lowest_spot(outlines, width, height, wide, high):
    """The pair `(up, left)` of the least up, then the least left, at which such an outline fits, or None."""
    # What has no column or no row covers nothing, so it stands in nobody's way and nothing stands in its way.
    by_left = sorted([row for row in outlines if min(wide, high, row[2], row[3]) > 0])
    for up in _ups_to_try(by_left, height - high):
        left = _least_left(by_left, up, wide, high)
        if inside((left, up, wide, high), width, height):
            return (up, left)
    return None


def _ups_to_try(outlines, last):
    """All rows, none beyond the last, that can be the least up of a spot, in order; row nought in any case."""
    # Above row nought, a spot that no outline ends right below could be one row lower, so it is not the least.
    ends = sorted({row[1] + row[3] for row in outlines})
    return [0] + [end for end in ends if 0 < end <= last]


def _least_left(by_left, up, wide, high):
    """The least left, from nought, at which such an outline overlaps none, whatever the shelf's width."""
    left = 0
    # In the order of their lefts, what is behind us can never be hit again: moving on only leads away from it.
    for first, behind in _covered_columns(by_left, up, up + high):
        if first >= left + wide:
            break
        left = max(left, behind)
    return left


def _covered_columns(outlines, up, end):
    """The first column, and the one behind the last, of each outline that covers a row from up to below end."""
    return [(row[0], row[0] + row[2]) for row in outlines if row[1] < end and up < row[1] + row[3]]


def first_place(shelves, rows, width, height, turns):
    """The first place of such a box among the outlines of all shelves, or None."""
    ways = _ways(width, height, turns)
    for number in range(len(shelves)):
        place = _first_on_shelf(shelves, number, rows[number], ways)
        if place is not None:
            return place
    return None


def _ways(width, height, turns):
    """How the box may stand: tuples `(wide, high, turned)`, upright first."""
    if turns:
        return [(width, height, False), (height, width, True)]
    return [(width, height, False)]


def _first_on_shelf(shelves, number, outlines, ways):
    """The first place, on the shelf of that number, of a box that may stand in those ways, or None."""
    first = None
    for wide, high, turned in ways:
        spot = first_spot(outlines, shelves[number], wide, high)
        if spot is not None:
            place = (number, spot[0], spot[1], turned)
            if first is None or comes_ahead(shelves, place, first):
                first = place
    return first
