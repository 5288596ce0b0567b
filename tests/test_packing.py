"""Points 14 and 15: the order by size, and packing."""

import copy
import time
import unittest

import packshelf.packing
from packshelf.errors import NoBox, NoRoom, NoShelf, Twice
from packshelf.packing import by_size, packed
from packshelf.racks import Rack
from tests.plain_rack import PlainRack, is_in_order, state, told
from tests.reference import drawn_shelf, seeded
from tests.refusals import Refusals

MOST = 1000000


def comes_first(one, other):
    """Whether the box one has to stand ahead of the box other by size."""
    return one[2] > other[2] or (one[2] == other[2] and one[1] > other[1])


def sorted_by_steps(boxes):
    """By size, each box put behind the last one that it does not come ahead of."""
    out = []
    for box in boxes:
        at = len(out)
        while at > 0 and comes_first(box, out[at - 1]):
            at -= 1
        out.insert(at, box)
    return out


def plainly_packed(shelves, boxes):
    """The same by a plain search: a plain rack, and the names of those that are left."""
    plain, left = PlainRack(shelves), []
    for box in sorted_by_steps(boxes):
        try:
            plain.put(*box)
        except NoRoom:
            left.append(box[0])
    return plain, left


def drawn_boxes(draw, most, names, wrong):
    """Boxes whose names may stand twice, and some of which may be none."""
    boxes = []
    for _ in range(draw.randint(0, most)):
        box = (draw.choice(names), draw.randint(1, 4), draw.randint(1, 4), draw.choice((True, False)))
        if draw.random() < wrong:
            box = draw.choice((("", 1, 1, True), ("a", 0, 2, True), ("b", 2, MOST + 1, False), ("C", 3, 3, False)))
        boxes.append(box)
    return boxes


class BySize(unittest.TestCase):
    def check(self, boxes, names):
        found = by_size(boxes)
        self.assertIs(type(found), list)
        self.assertEqual([box[0] for box in found], names)
        self.assertEqual(found, sorted_by_steps(boxes))

    def test_the_functions_are_defined_where_the_document_lists_them(self):
        for ask in (by_size, packed):
            self.assertEqual(ask.__module__, "packshelf.packing")
            self.assertIs(getattr(packshelf.packing, ask.__name__), ask)

    def test_no_boxes_and_one(self):
        self.check([], [])
        self.check([("a", 1, 2, True)], ["a"])

    def test_the_greater_height_first(self):
        self.check([("a", 9, 2, True), ("b", 1, 10, False), ("c", 5, 9, True)], ["b", "c", "a"])

    def test_of_like_heights_the_greater_width(self):
        self.check([("a", 2, 4, True), ("b", 10, 4, False), ("c", 9, 4, True), ("d", 1, 5, True)], list("dbca"))

    def test_boxes_of_like_sides_stay_in_their_order(self):
        boxes = [("c", 2, 4, True), ("a", 2, 4, False), ("d", 3, 4, True), ("b", 2, 4, True), ("a", 2, 4, True)]
        self.check(boxes, ["d", "c", "a", "b", "a"])
        self.check([("b", 1, 1, False), ("a", 1, 1, True)], ["b", "a"])
        self.check([("a", 1, 1, True), ("b", 1, 1, False)], ["a", "b"])

    def test_that_a_box_may_be_turned_counts_for_nothing(self):
        self.check([("a", 9, 2, True), ("b", 2, 3, False), ("c", 3, 2, True)], ["b", "a", "c"])

    def test_drawn_boxes(self):
        draw = seeded(141)
        for _ in range(400):
            boxes = drawn_boxes(draw, 70, ("a", "b", "c", "d"), 0)
            self.assertEqual(by_size(boxes), sorted_by_steps(boxes))

    def test_the_list_is_a_new_one_and_the_handed_one_stays(self):
        for boxes in ([("a", 1, 1, True), ("b", 2, 2, False)], [("a", 2, 2, True), ("b", 1, 1, False)], []):
            kept = copy.deepcopy(boxes)
            found = by_size(boxes)
            self.assertEqual(boxes, kept)
            found.append(("c", 1, 1, True))
            self.assertEqual(boxes, kept)
            again = by_size(boxes)
            boxes.clear()
            self.assertEqual(len(again), len(kept))

    def test_boxes_beyond_the_limits_are_put_in_order_all_the_same(self):
        self.check([("", 0, -1, True), ("B", MOST + 1, 0, False), ("c", 5, MOST + 9, True)], ["c", "B", ""])


class Packed(unittest.TestCase, Refusals):
    def check(self, shelves, boxes, places, left):
        """The boxes stand at these places, and these are left."""
        answer = packed(shelves, boxes)
        self.assertIs(type(answer), tuple)
        rack, names = answer
        self.assertIs(type(rack), Rack)
        self.assertIs(type(names), list)
        self.assertEqual(rack.shelves, shelves)
        self.assertEqual({name: rack.where(name) for name in rack.names()}, places)
        self.assertEqual(names, left)

    def test_no_boxes(self):
        self.check([(5, 5, "low")], [], {}, [])

    def test_boxes_go_by_size(self):
        boxes = [("a", 1, 2, False), ("b", 2, 4, False), ("c", 3, 4, False)]
        places = {"c": (0, 0, 0, False), "b": (0, 0, 3, False), "a": (0, 4, 0, False)}
        self.check([(5, 6, "low")], boxes, places, [])
        places = {"c": (0, 0, 0, False), "b": (0, 0, 3, False), "a": (0, 4, 0, False)}
        self.check([(6, 6, "left")], boxes, places, [])

    def test_each_at_its_first_place_on_all_shelves(self):
        boxes = [("a", 2, 1, True), ("b", 3, 3, False), ("c", 2, 3, True)]
        shelves = [(2, 3, "left"), (4, 3, "low")]
        places = {"b": (1, 0, 0, False), "c": (0, 0, 0, False), "a": (1, 0, 3, True)}
        self.check(shelves, boxes, places, [])

    def test_boxes_without_room_are_left_and_others_still_put(self):
        boxes = [("a", 1, 1, False), ("b", 2, 9, False), ("c", 3, 2, False), ("d", 9, 2, True), ("e", 1, 1, True)]
        places = {"c": (0, 0, 0, False), "a": (0, 2, 0, False), "e": (0, 2, 1, False)}
        self.check([(3, 3, "low")], boxes, places, ["b", "d"])

    def test_those_that_are_left_stand_by_size(self):
        boxes = [("a", 5, 5, False), ("b", 6, 7, False), ("c", 8, 7, True), ("d", 5, 5, True), ("e", 1, 9, False)]
        self.check([(2, 2, "low")], boxes, {}, ["e", "c", "b", "a", "d"])

    def test_a_name_that_was_left_does_not_stand_there(self):
        boxes = [("a", 5, 5, False), ("a", 1, 1, False), ("a", 4, 4, False)]
        self.check([(3, 3, "low")], boxes, {"a": (0, 0, 0, False)}, ["a", "a"])

    def test_a_name_that_stands_there_goes_out(self):
        boxes = [("a", 2, 2, False), ("b", 1, 1, False), ("a", 1, 1, False)]
        self.check_refused(Twice, packed, [(3, 3, "low")], boxes)
        self.check_refused(Twice, packed, [(2, 2, "low")], [("a", 2, 2, False), ("a", 2, 2, False)])

    def test_what_is_no_box_goes_out(self):
        for box in (("A", 1, 1, True), ("", 1, 1, True), ("a" * 13, 1, 1, True), ("a", 0, 1, True), ("a", 1, 0, False),
                    ("a", MOST + 1, 1, True), ("a", 1, MOST + 1, True)):
            self.check_refused(NoBox, packed, [(3, 3, "low")], [box])
            self.check_refused(NoBox, packed, [(3, 3, "low")], [("b", 9, 9, False), box, ("c", 1, 1, False)])

    def test_by_size_the_first_refusal_that_goes_out(self):
        twice = [("b", 2, 2, False), ("b", 2, 2, False)]
        self.check_refused(NoBox, packed, [(9, 9, "low")], twice + [("A", 3, 3, False)])
        self.check_refused(Twice, packed, [(9, 9, "low")], [("A", 1, 1, False)] + twice)

    def test_shelves_that_are_none_ahead_of_the_boxes(self):
        for shelves in ([], [(2, 2, "low")] * 10, [(0, 2, "low")], [(2, MOST + 1, "low")], [(2, 2, "high")]):
            self.check_refused(NoShelf, packed, shelves, [("a", 1, 1, False)])
            self.check_refused(NoShelf, packed, shelves, [("A", 0, 0, False)])

    def test_what_is_handed_in_is_the_same_behind_the_call(self):
        shelves = [(3, 3, "left"), (2, 2, "low")]
        boxes = [("a", 1, 1, False), ("b", 2, 3, True), ("c", 9, 9, True)]
        kept = copy.deepcopy((shelves, boxes))
        rack, _ = packed(shelves, boxes)
        self.assertEqual((shelves, boxes), kept)
        ahead = state(rack)
        shelves[0] = (1, 1, "low")
        boxes.clear()
        self.assertEqual(state(rack), ahead)

    def test_each_call_gives_a_rack_and_a_list_of_its_own(self):
        shelves, boxes = [(3, 3, "left")], [("a", 1, 1, False), ("b", 9, 9, True)]
        (one, left), (other, other_left) = packed(shelves, boxes), packed(shelves, boxes)
        one.take_out("a")
        left.clear()
        self.assertEqual((other.names(), other_left), (["a"], ["b"]))
        self.assertEqual(one.put("a", 3, 3, False), (0, 0, 0, False))

    def test_drawn_packings_against_a_plain_search(self):
        draw = seeded(15)
        ends = set()
        for _ in range(500):
            shelves = [drawn_shelf(draw, 6) for _ in range(draw.randint(1, 3))]
            names = tuple("abcdefghij") if draw.random() < 0.3 else tuple(f"n{k}" for k in range(300))
            boxes = drawn_boxes(draw, 14, names, 0.02)
            expected, found = told(plainly_packed, shelves, boxes), told(packed, shelves, boxes)
            ends.add(expected[1] if expected[0] == "refused" else "left" if expected[1][1] else "all put")
            self.assertEqual(found[0], expected[0])
            if found[0] == "refused":
                self.assertIs(found[1], expected[1])
                continue
            (rack, left), (plain, names) = found[1], expected[1]
            self.assertEqual(left, names)
            self.assertEqual(state(rack), state(plain))
            self.assertTrue(is_in_order(rack))
        self.assertEqual(ends, {NoBox, Twice, "left", "all put"})

    def test_seventy_boxes_far_below_the_time_that_anybody_waits(self):
        draw = seeded(70)
        for shelves in ([(MOST, MOST, "low")], [(300000, MOST, "left"), (MOST, 300000, "low")] * 4):
            boxes = [(f"b{k}", draw.randint(1, 200000), draw.randint(1, 200000), True) for k in range(70)]
            begun = time.process_time()
            rack, left = packed(shelves, boxes)
            self.assertLess(time.process_time() - begun, 5)
            self.assertEqual(len(rack.names()) + len(left), 70)


if __name__ == "__main__":
    unittest.main()
