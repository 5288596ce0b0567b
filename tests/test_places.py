"""Points 1 and 4 to 7: shelves, the one order of places, the first spot and the first place."""

import copy
import time
import unittest

from packshelf.places import comes_ahead, first_place, first_spot
from tests.reference import (
    drawn_outlines,
    drawn_shelf,
    place_by_trying,
    places_in_order,
    seeded,
    spot_by_trying,
)

MOST = 1000000


class Order(unittest.TestCase):
    SHELVES = [(9, 9, "low"), (9, 9, "left"), (9, 9, "low")]

    def check_ahead(self, one, other, shelves=None):
        """One comes ahead of other, so other does not come ahead of one."""
        shelves = self.SHELVES if shelves is None else shelves
        self.assertIs(comes_ahead(shelves, one, other), True, (one, other))
        self.assertIs(comes_ahead(shelves, other, one), False, (other, one))

    def test_the_lesser_shelf_whatever_else(self):
        self.check_ahead((0, 8, 8, True), (1, 0, 0, False))
        self.check_ahead((1, 8, 8, True), (2, 0, 0, False))
        self.check_ahead((0, 8, 8, True), (2, 0, 0, False))

    def test_habit_low_takes_the_lesser_up_then_the_lesser_left(self):
        self.check_ahead((0, 1, 7, True), (0, 2, 3, False))
        self.check_ahead((0, 1, 3, True), (0, 1, 7, False))

    def test_habit_left_takes_the_lesser_left_then_the_lesser_up(self):
        self.check_ahead((1, 7, 1, True), (1, 3, 2, False))
        self.check_ahead((1, 3, 1, True), (1, 7, 1, False))

    def test_the_habits_answer_otherwise(self):
        self.check_ahead((0, 2, 5, False), (0, 5, 2, False), [(9, 9, "low")])
        self.check_ahead((0, 5, 2, False), (0, 2, 5, False), [(9, 9, "left")])

    def test_the_habit_of_the_places_own_shelf_counts(self):
        self.check_ahead((2, 2, 5, False), (2, 5, 2, False))
        self.check_ahead((1, 5, 2, False), (1, 2, 5, False))

    def test_upright_ahead_of_turned_at_one_spot(self):
        self.check_ahead((0, 4, 6, False), (0, 4, 6, True))
        self.check_ahead((1, 4, 6, False), (1, 4, 6, True))

    def test_a_place_and_itself(self):
        for place in ((0, 0, 0, False), (0, 4, 6, True), (1, 4, 6, False), (1, 6, 4, True)):
            self.assertIs(comes_ahead(self.SHELVES, place, place), False)

    def test_numbers_are_compared_as_numbers(self):
        self.check_ahead((0, 9, 0, False), (0, 10, 0, False), [(99, 99, "low")])
        self.check_ahead((0, 0, 9, False), (0, 0, 10, False), [(99, 99, "left")])

    def test_all_places_of_small_shelves_against_one_list(self):
        shelves = [(2, 3, "left"), (3, 2, "low"), (2, 2, "left")]
        places = places_in_order(shelves)
        for at, one in enumerate(places):
            for behind, other in enumerate(places):
                self.assertIs(comes_ahead(shelves, one, other), at < behind, (one, other))

    def test_a_number_that_no_shelf_has(self):
        self.check_ahead((0, 8, 8, True), (5, 0, 0, False), [(9, 9, "left")])
        self.check_ahead((-1, 8, 8, True), (0, 0, 0, False), [(9, 9, "left")])

    def test_shelves_and_places_are_the_same_behind_the_call(self):
        shelves = [[9, 9, "left"], [9, 9, "low"]]
        kept = copy.deepcopy(shelves)
        one, other = [0, 3, 4, False], [0, 4, 3, True]
        comes_ahead(shelves, one, other)
        self.assertEqual(shelves, kept)
        self.assertEqual((one, other), ([0, 3, 4, False], [0, 4, 3, True]))


class FirstSpot(unittest.TestCase):
    def check(self, outlines, shelf, wide, high, expected):
        found = first_spot(outlines, shelf, wide, high)
        self.assertEqual(found, expected, (outlines, shelf, wide, high))
        if found is not None:
            self.assertIs(type(found), tuple)
        self.assertEqual(spot_by_trying(outlines, shelf, wide, high), expected)

    def test_an_empty_shelf(self):
        for habit in ("low", "left"):
            self.check([], (5, 4, habit), 2, 3, (0, 0))
            self.check([], (5, 4, habit), 5, 4, (0, 0))
            self.check([], (1, 1, habit), 1, 1, (0, 0))

    def test_the_pair_is_up_then_left_in_both_habits(self):
        self.check([(0, 0, 3, 3)], (9, 9, "low"), 2, 2, (0, 3))
        self.check([(0, 0, 3, 3)], (9, 9, "left"), 2, 2, (3, 0))

    def test_of_like_ups_the_lesser_left_and_of_like_lefts_the_lesser_up(self):
        outlines = [(2, 0, 1, 9), (0, 2, 9, 1)]
        self.check(outlines + [(0, 0, 1, 1)], (9, 9, "low"), 1, 1, (0, 1))
        self.check(outlines + [(0, 0, 1, 1)], (9, 9, "left"), 1, 1, (1, 0))

    def test_behind_outlines_that_overlap_one_another(self):
        outlines = [(2, 0, 3, 3), (0, 0, 3, 3), (1, 1, 3, 3), (0, 0, 3, 3)]
        self.check(outlines, (7, 7, "low"), 2, 2, (0, 5))
        self.check(outlines, (7, 7, "left"), 2, 2, (4, 0))

    def test_a_short_outline_within_a_long_one(self):
        self.check([(0, 0, 6, 1), (1, 0, 2, 1)], (9, 1, "low"), 2, 1, (0, 6))
        self.check([(0, 0, 1, 6), (0, 1, 1, 2)], (1, 9, "left"), 1, 2, (6, 0))

    def test_behind_outlines_that_stick_out(self):
        outlines = [(-3, -2, 5, 4), (4, -1, 20, 2), (-1, 5, 2, 20)]
        self.check(outlines, (6, 7, "low"), 2, 2, (0, 2))
        self.check(outlines, (6, 7, "left"), 2, 2, (2, 0))
        self.check(outlines, (6, 7, "low"), 3, 1, (1, 2))
        self.check(outlines, (6, 7, "left"), 1, 4, (2, 1))

    def test_outlines_wholly_outside_take_no_room(self):
        outlines = [(-2, -2, 2, 9), (0, -4, 9, 4), (5, 0, 3, 3), (0, 5, 3, 3), (-9, -9, 2, 2)]
        for habit in ("low", "left"):
            self.check(outlines, (5, 5, habit), 5, 5, (0, 0))

    def test_a_gap_that_is_just_wide_enough(self):
        self.check([(0, 0, 2, 2), (5, 0, 2, 2)], (7, 4, "low"), 3, 1, (0, 2))
        self.check([(0, 0, 2, 2), (0, 5, 2, 2)], (4, 7, "left"), 1, 3, (2, 0))

    def test_a_gap_that_is_too_narrow(self):
        self.check([(0, 0, 2, 2), (4, 0, 3, 2)], (7, 4, "low"), 3, 1, (2, 0))
        self.check([(0, 0, 2, 2), (0, 4, 2, 3)], (4, 7, "left"), 1, 3, (0, 2))

    def test_a_gap_that_is_just_high_enough_or_too_low(self):
        roof = [(0, 2, 5, 1)]
        self.check(roof, (5, 9, "low"), 5, 2, (0, 0))
        self.check(roof, (5, 9, "low"), 5, 3, (3, 0))
        wall = [(2, 0, 1, 5)]
        self.check(wall, (9, 5, "left"), 2, 5, (0, 0))
        self.check(wall, (9, 5, "left"), 3, 5, (0, 3))

    def test_the_gap_ahead_of_an_outline_counts(self):
        self.check([(2, 0, 3, 3)], (9, 9, "low"), 2, 2, (0, 0))
        self.check([(0, 2, 3, 3)], (9, 9, "left"), 2, 2, (0, 0))

    def test_a_spot_that_nothing_holds_up(self):
        self.check([(0, 0, 1, 5), (1, 3, 4, 2), (2, 0, 1, 2)], (5, 5, "low"), 3, 1, (2, 1))

    def test_just_up_to_the_last_column_and_row(self):
        self.check([(0, 0, 3, 4)], (5, 4, "low"), 2, 4, (0, 3))
        self.check([(0, 0, 5, 2)], (5, 4, "left"), 5, 2, (2, 0))

    def test_greater_than_the_shelf(self):
        for habit in ("low", "left"):
            self.check([], (5, 4, habit), 6, 1, None)
            self.check([], (5, 4, habit), 1, 5, None)
            self.check([], (5, 4, habit), 6, 5, None)
            self.check([(0, 0, 1, 1)], (5, 4, habit), 4, 5, None)

    def test_no_room_left(self):
        for habit in ("low", "left"):
            self.check([(0, 0, 5, 4)], (5, 4, habit), 1, 1, None)
            self.check([(-1, -1, 9, 9)], (5, 4, habit), 1, 1, None)
            self.check([(2, 0, 1, 4)], (5, 4, habit), 3, 1, None)
            self.check([(0, 1, 5, 1)], (5, 3, habit), 1, 2, None)
            self.check([(1, 1, 3, 2)], (5, 4, habit), 2, 2, None)

    def test_drawn_shelves_against_all_pairs_one_by_one(self):
        draw = seeded(7)
        for _ in range(1500):
            shelf = drawn_shelf(draw, 8)
            outlines = drawn_outlines(draw, 7, 8)
            self.check_against_trying(outlines, shelf, draw.randint(1, 5), draw.randint(1, 5))

    def test_crowded_shelves_against_all_pairs_one_by_one(self):
        draw = seeded(8)
        for _ in range(300):
            outlines = drawn_outlines(draw, 25, 12)
            for habit in ("low", "left"):
                self.check_against_trying(outlines, (11, 12, habit), draw.randint(1, 4), draw.randint(1, 4))

    def check_against_trying(self, outlines, shelf, wide, high):
        expected = spot_by_trying(outlines, shelf, wide, high)
        self.assertEqual(first_spot(outlines, shelf, wide, high), expected, (outlines, shelf, wide, high))


class FirstPlace(unittest.TestCase):
    def check(self, shelves, rows, width, height, turns, expected):
        place = first_place(shelves, rows, width, height, turns)
        self.assertEqual(place, expected, (shelves, rows, width, height, turns))
        if place is not None:
            self.assertIs(type(place), tuple)
            self.assertIs(type(place[3]), bool)
        self.assertEqual(place_by_trying(shelves, rows, width, height, turns), expected)

    def test_the_first_shelf_where_it_fits(self):
        shelves = [(5, 5, "low"), (9, 9, "low")]
        self.check(shelves, [[], []], 3, 2, False, (0, 0, 0, False))
        self.check(shelves, [[(0, 0, 3, 5)], []], 2, 5, False, (0, 0, 3, False))

    def test_a_later_shelf(self):
        shelves = [(2, 2, "low"), (5, 5, "left"), (9, 9, "low")]
        self.check(shelves, [[], [(0, 0, 5, 1)], []], 3, 2, False, (1, 1, 0, False))
        self.check(shelves, [[], [(0, 0, 5, 4)], []], 3, 2, False, (2, 0, 0, False))
        self.check(shelves, [[(0, 0, 2, 2)], [(0, 0, 5, 5)], [(0, 0, 8, 9)]], 1, 9, False, (2, 0, 8, False))

    def test_each_shelf_has_outlines_of_its_own(self):
        shelves = [(3, 3, "low"), (3, 3, "low")]
        self.check(shelves, [[(0, 0, 3, 3)], []], 3, 3, False, (1, 0, 0, False))
        self.check(shelves, [[], [(0, 0, 3, 3)]], 3, 3, False, (0, 0, 0, False))

    def test_found_turned_alone(self):
        for habit in ("low", "left"):
            self.check([(2, 6, habit)], [[]], 5, 2, True, (0, 0, 0, True))
        self.check([(4, 6, "low")], [[(0, 0, 4, 1)]], 5, 2, True, (0, 1, 0, True))

    def test_a_box_that_may_not_be_turned_has_none_then(self):
        for habit in ("low", "left"):
            self.check([(2, 6, habit)], [[]], 5, 2, False, None)

    def test_upright_ahead_of_turned_at_one_spot(self):
        for habit in ("low", "left"):
            self.check([(9, 9, habit)], [[]], 5, 2, True, (0, 0, 0, False))
            self.check([(9, 9, habit)], [[]], 2, 5, True, (0, 0, 0, False))
            self.check([(9, 9, habit)], [[]], 3, 3, True, (0, 0, 0, False))

    def test_turned_where_its_spot_comes_ahead(self):
        self.check([(9, 9, "low")], [[(0, 0, 7, 5)]], 5, 2, True, (0, 0, 7, True))
        self.check([(9, 9, "left")], [[(0, 0, 5, 7)]], 2, 5, True, (0, 7, 0, True))

    def test_the_habit_tells_which_way_is_ahead(self):
        outlines = [(0, 0, 6, 6)]
        self.check([(8, 8, "low")], [outlines], 2, 7, True, (0, 0, 6, False))
        self.check([(8, 8, "left")], [outlines], 2, 7, True, (0, 6, 0, True))

    def test_turned_on_a_lesser_shelf_ahead_of_upright_on_a_later_one(self):
        shelves = [(2, 6, "low"), (9, 9, "low")]
        self.check(shelves, [[], []], 5, 2, True, (0, 0, 0, True))
        self.check(shelves, [[], []], 5, 2, False, (1, 0, 0, False))

    def test_no_place_on_any_shelf(self):
        shelves = [(3, 3, "low"), (4, 2, "left")]
        self.check(shelves, [[], []], 5, 1, True, None)
        self.check(shelves, [[(1, 1, 1, 1)], [(0, 0, 4, 2)]], 2, 2, True, None)

    def test_drawn_racks_against_all_places_one_by_one(self):
        draw = seeded(11)
        for _ in range(800):
            shelves = [drawn_shelf(draw, 6) for _ in range(draw.randint(1, 4))]
            rows = [drawn_outlines(draw, 6, 6) for _ in shelves]
            width, height, turns = draw.randint(1, 5), draw.randint(1, 5), draw.choice((True, False))
            expected = place_by_trying(shelves, rows, width, height, turns)
            self.assertEqual(first_place(shelves, rows, width, height, turns), expected, (shelves, rows))

    def test_nine_shelves(self):
        shelves = [(3, 3, "low")] * 8 + [(3, 3, "left")]
        rows = [[(0, 0, 3, 3)] for _ in range(8)] + [[(0, 0, 1, 1)]]
        self.check(shelves, rows, 1, 1, True, (8, 1, 0, False))


class HandedIn(unittest.TestCase):
    OUTLINES = [(5, 5, 2, 2), (0, 0, 2, 2), (1, 1, 2, 2), (-1, 0, 1, 1), (0, 0, 2, 2)]

    def test_the_outlines_of_a_spot_are_the_same_behind_the_call(self):
        for habit in ("low", "left"):
            for wide in (1, 20):
                outlines = copy.deepcopy(self.OUTLINES)
                first_spot(outlines, (9, 9, habit), wide, 2)
                self.assertEqual(outlines, self.OUTLINES)

    def test_lists_within_lists_are_the_same_behind_the_call(self):
        shelves = [(2, 2, "low"), (9, 9, "left"), (9, 9, "low")]
        rows = [list(self.OUTLINES), list(self.OUTLINES), []]
        kept_shelves, kept_rows = copy.deepcopy(shelves), copy.deepcopy(rows)
        for width in (1, 20):
            for turns in (True, False):
                first_place(shelves, rows, width, 3, turns)
                self.assertEqual(shelves, kept_shelves)
                self.assertEqual(rows, kept_rows)

    def test_what_is_changed_behind_the_call_changes_no_answer_given(self):
        shelves, rows = [(4, 4, "low")], [[(0, 0, 2, 4)]]
        place = first_place(shelves, rows, 2, 2, True)
        rows[0].append((2, 0, 2, 2))
        self.assertEqual(place, (0, 0, 2, False))
        self.assertEqual(first_place(shelves, rows, 2, 2, True), (0, 2, 2, False))
        shelves[0] = (9, 4, "low")
        self.assertEqual(first_place(shelves, rows, 2, 2, True), (0, 0, 4, False))

    def test_no_error_somewhat_beyond_the_limits(self):
        shelf = (MOST + 7, MOST + 7, "low")
        self.assertEqual(first_spot([(0, 0, 6, MOST + 7)], shelf, MOST + 1, MOST + 1), (0, 6))
        self.assertEqual(first_spot([(k, 0, 1, 1) for k in range(95)], (96, 1, "low"), 1, 1), (0, 95))
        shelves = [(1, 1, "low")] * 12
        self.assertEqual(first_place(shelves, [[(0, 0, 1, 1)]] * 11 + [[]], 1, 1, True), (11, 0, 0, False))
        self.assertIsNone(first_place([(0, 5, "low")], [[]], 1, 1, True))
        self.assertEqual(first_spot([], (3, 3, "low"), 0, 0), (0, 0))

    def test_what_covers_nothing_is_in_nobodys_way(self):
        draw = seeded(9)
        for _ in range(400):
            shelf = drawn_shelf(draw, 6)
            outlines = [(left, up, max(0, wide - 2), high - 1) for left, up, wide, high in drawn_outlines(draw, 9, 6)]
            wide, high = draw.choice(((0, 0), (0, 1), (1, 0), (1, 1), (2, 1)))
            expected = spot_by_trying(outlines, shelf, wide, high)
            self.assertEqual(first_spot(outlines, shelf, wide, high), expected, (outlines, shelf, wide, high))


class GreatShelves(unittest.TestCase):
    """Shelves of up to 1000000 by 1000000 with 70 outlines: far below a second for each answer."""

    STAIRS = [(k * 14000, k * 13000, MOST, 13000) for k in range(70)]
    SPREAD = [(k * 7919 * 31 % 990000, k * 104729 * 17 % 990000, 9000 + k * 11, 8000 + k * 13) for k in range(70)]

    def quick(self, ask, *told):
        begun = time.process_time()
        found = ask(*told)
        self.assertLess(time.process_time() - begun, 0.8)
        return found

    def test_an_empty_shelf(self):
        for habit in ("low", "left"):
            shelf = (MOST, MOST, habit)
            self.assertEqual(self.quick(first_spot, [], shelf, MOST, MOST), (0, 0))
            self.assertIsNone(self.quick(first_spot, [(MOST - 1, MOST - 1, 1, 1)], shelf, MOST, MOST))

    def test_stairs_of_seventy_outlines(self):
        low, left = (MOST, MOST, "low"), (MOST, MOST, "left")
        self.assertEqual(self.quick(first_spot, self.STAIRS, low, MOST, 90000), (910000, 0))
        self.assertIsNone(self.quick(first_spot, self.STAIRS, low, MOST, 90001))
        self.assertEqual(self.quick(first_spot, self.STAIRS, left, 42000, 961000), (39000, 0))
        self.assertEqual(self.quick(first_spot, self.STAIRS, low, 42000, 961000), (39000, 0))

    def test_columns_side_by_side_with_one_gap_at_the_end(self):
        columns = [(k * 14000, 0, 14000, MOST) for k in range(69)]
        for habit in ("low", "left"):
            shelf = (MOST, MOST, habit)
            self.assertEqual(self.quick(first_spot, columns, shelf, 34000, MOST), (0, 966000))
            self.assertIsNone(self.quick(first_spot, columns, shelf, 34001, MOST))

    def test_boxes_all_over_the_shelf_leave_no_great_spot(self):
        for habit in ("low", "left"):
            self.assertIsNone(self.quick(first_spot, self.SPREAD, (MOST, MOST, habit), 600000, 600000))

    def test_answers_grow_with_the_measure(self):
        # Multiplied by one number, a shelf that is small enough to go through gives the same spot, multiplied.
        draw, times = seeded(5), 90000
        for _ in range(60):
            outlines = drawn_outlines(draw, 30, 10)
            shelf = drawn_shelf(draw, 11)
            wide, high = draw.randint(1, 5), draw.randint(1, 5)
            spot = spot_by_trying(outlines, shelf, wide, high)
            expected = None if spot is None else (spot[0] * times, spot[1] * times)
            great = [tuple(part * times for part in outline) for outline in outlines]
            great_shelf = (shelf[0] * times, shelf[1] * times, shelf[2])
            self.assertEqual(self.quick(first_spot, great, great_shelf, wide * times, high * times), expected)

    def test_nine_shelves_of_seventy_outlines(self):
        shelves = [(MOST, MOST, habit) for habit in ("low", "left") * 4] + [(MOST, MOST, "low")]
        rows = [list(self.SPREAD) for _ in shelves]
        self.assertIsNone(self.quick(first_place, shelves, rows, 600000, 590000, True))
        rows[8] = []
        self.assertEqual(self.quick(first_place, shelves, rows, 600000, 590000, True), (8, 0, 0, False))


if __name__ == "__main__":
    unittest.main()
