"""Packing: boxes put by size into an empty rack."""

from packshelf.errors import NoRoom
from packshelf.racks import Rack


def by_size(boxes):
    """The boxes, the greater height first, of like heights the greater width, else in the order in which they came."""
    return sorted(boxes, key=lambda box: (-box[2], -box[1]))


def packed(shelves, boxes):
    """A tuple `(rack, left)`: a rack with the boxes, and the names, by size, of those that had no room."""
    rack = Rack(shelves)
    left = []
    for name, width, height, turns in by_size(boxes):
        try:
            rack.put(name, width, height, turns)
        except NoRoom:
            left.append(name)
    return (rack, left)
