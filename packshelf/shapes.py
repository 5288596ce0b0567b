"""Outlines `(left, up, wide, high)`: what overlaps, what is inside, what fits."""


def overlap(one, other):
    """Whether some column and some row are covered by both outlines."""
    left, up, wide, high = one
    other_left, other_up, other_wide, other_high = other
    return (max(left, other_left) < min(left + wide, other_left + other_wide)
            and max(up, other_up) < min(up + high, other_up + other_high))


def inside(outline, width, height):
    """Whether the outline sticks out of a shelf of that width and height nowhere."""
    left, up, wide, high = outline
    return left >= 0 and up >= 0 and left + wide <= width and up + high <= height


def first_hit(outlines, outline):
    """The number, from nought, of the first of the list that overlaps the outline, or None."""
    for number, row in enumerate(outlines):
        if overlap(row, outline):
            return number
    return None


def fits(outlines, outline, width, height):
    """Whether the outline is inside such a shelf and overlaps none of the list."""
    return inside(outline, width, height) and first_hit(outlines, outline) is None
