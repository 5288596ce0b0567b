"""The document's words, followed column by column and pair by pair: slow, but plain to check."""

import random


def cells(outline):
    """All pairs of a column and a row that the outline covers."""
    left, up, wide, high = outline
    return {(column, row) for column in range(left, left + wide) for row in range(up, up + high)}


def is_inside(outline, width, height):
    return all(0 <= column < width and 0 <= row < height for column, row in cells(outline))


def does_fit(outlines, outline, width, height):
    covered = cells(outline)
    return is_inside(outline, width, height) and not any(covered & cells(row) for row in outlines)


def pairs_in_order(shelf):
    """All pairs (up, left) of a shelf, in the order of its habit."""
    width, height, habit = shelf
    if habit == "low":
        return [(up, left) for up in range(height) for left in range(width)]
    return [(up, left) for left in range(width) for up in range(height)]


def spot_by_trying(outlines, shelf, wide, high):
    for up, left in pairs_in_order(shelf):
        if does_fit(outlines, (left, up, wide, high), shelf[0], shelf[1]):
            return (up, left)
    return None


def places_in_order(shelves):
    """All places of all shelves, in the order of point 6."""
    return [
        (number, up, left, turned)
        for number, shelf in enumerate(shelves)
        for up, left in pairs_in_order(shelf)
        for turned in (False, True)
    ]


def place_by_trying(shelves, rows, width, height, turns):
    for number, up, left, turned in places_in_order(shelves):
        if turned and not turns:
            continue
        wide, high = (height, width) if turned else (width, height)
        if does_fit(rows[number], (left, up, wide, high), shelves[number][0], shelves[number][1]):
            return (number, up, left, turned)
    return None


def drawn_outlines(draw, most, reach):
    """Up to so many outlines that may overlap one another and begin below nought or stick out."""
    return [
        (draw.randint(-3, reach), draw.randint(-3, reach), draw.randint(1, 4), draw.randint(1, 4))
        for _ in range(draw.randint(0, most))
    ]


def drawn_shelf(draw, most):
    return (draw.randint(1, most), draw.randint(1, most), draw.choice(("low", "left")))


def seeded(seed):
    """Draws that are the same in each run, so that a failure comes back."""
    return random.Random(seed)
