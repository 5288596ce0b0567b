"""Points 1 to 3: outlines, what overlaps, what is inside, what fits."""

import copy
import itertools
import unittest

from packshelf.shapes import first_hit, fits, inside, overlap
from tests.reference import cells, does_fit, drawn_outlines, is_inside, seeded

MOST = 1000000


class Overlap(unittest.TestCase):
    def check(self, one, other, expected):
        self.assertIs(overlap(one, other), expected, (one, other))
        self.assertIs(overlap(other, one), expected, (other, one))

    def test_one_column_and_one_row_alone_in_common(self):
        self.check((0, 0, 3, 3), (2, 2, 3, 3), True)
        self.check((0, 2, 3, 3), (2, 0, 3, 3), True)
        self.check((4, 4, 1, 1), (4, 4, 1, 1), True)

    def test_touching_at_a_side(self):
        self.check((0, 0, 3, 3), (3, 0, 3, 3), False)
        self.check((0, 0, 3, 3), (0, 3, 3, 3), False)
        self.check((0, 0, 3, 3), (3, 1, 1, 1), False)
        self.check((0, 0, 3, 3), (1, 3, 1, 1), False)

    def test_touching_at_a_corner(self):
        self.check((0, 0, 3, 3), (3, 3, 3, 3), False)
        self.check((0, 3, 3, 3), (3, 0, 3, 3), False)

    def test_columns_in_common_but_no_rows(self):
        self.check((0, 0, 5, 2), (1, 7, 3, 2), False)

    def test_rows_in_common_but_no_columns(self):
        self.check((0, 0, 2, 5), (7, 1, 2, 3), False)

    def test_one_within_the_other(self):
        self.check((0, 0, 9, 9), (3, 4, 2, 1), True)
        self.check((0, 0, 9, 9), (0, 0, 9, 9), True)
        self.check((0, 0, 9, 9), (8, 8, 1, 1), True)

    def test_a_cross_that_holds_no_corner_of_either(self):
        self.check((0, 3, 9, 2), (3, 0, 2, 9), True)

    def test_lefts_and_ups_below_nought(self):
        self.check((-5, -5, 6, 6), (0, 0, 1, 1), True)
        self.check((-5, -5, 5, 6), (0, 0, 1, 1), False)
        self.check((-5, -5, 6, 5), (0, 0, 1, 1), False)
        self.check((-9, -9, 3, 3), (-7, -7, 1, 1), True)
        self.check((-9, -9, 3, 3), (-6, -9, 3, 3), False)

    def test_the_greatest_widths_and_heights(self):
        self.check((0, 0, MOST, MOST), (MOST - 1, MOST - 1, MOST, MOST), True)
        self.check((0, 0, MOST, MOST), (MOST, 0, MOST, MOST), False)
        self.check((0, 0, MOST, MOST), (0, MOST, MOST, MOST), False)

    def test_all_small_pairs_against_the_cells(self):
        starts = range(-2, 3)
        sizes = range(1, 4)
        one = (0, -1, 2, 3)
        for other in itertools.product(starts, starts, sizes, sizes):
            self.check(one, other, bool(cells(one) & cells(other)))


class Inside(unittest.TestCase):
    def check(self, outline, width, height, expected):
        self.assertIs(inside(outline, width, height), expected, (outline, width, height))

    def test_left_or_up_just_below_nought(self):
        self.check((0, 0, 2, 2), 5, 5, True)
        self.check((-1, 0, 2, 2), 5, 5, False)
        self.check((0, -1, 2, 2), 5, 5, False)

    def test_the_last_column_is_just_the_shelfs_last_or_one_beyond(self):
        self.check((3, 0, 2, 1), 5, 9, True)
        self.check((4, 0, 2, 1), 5, 9, False)

    def test_the_last_row_is_just_the_shelfs_last_or_one_beyond(self):
        self.check((0, 3, 1, 2), 9, 5, True)
        self.check((0, 4, 1, 2), 9, 5, False)

    def test_the_whole_shelf_and_more(self):
        self.check((0, 0, 4, 6), 4, 6, True)
        self.check((0, 0, 5, 6), 4, 6, False)
        self.check((0, 0, 4, 7), 4, 6, False)
        self.check((-1, -1, 6, 8), 4, 6, False)

    def test_wholly_outside(self):
        self.check((-3, 0, 2, 2), 5, 5, False)
        self.check((0, -3, 2, 2), 5, 5, False)
        self.check((5, 0, 1, 1), 5, 5, False)
        self.check((0, 5, 1, 1), 5, 5, False)

    def test_the_greatest_shelf(self):
        self.check((MOST - 1, MOST - 1, 1, 1), MOST, MOST, True)
        self.check((0, 0, MOST, MOST), MOST, MOST, True)
        self.check((MOST - 1, 0, 2, 1), MOST, MOST, False)
        self.check((0, MOST - 1, 1, 2), MOST, MOST, False)

    def test_all_small_outlines_against_the_cells(self):
        for outline in itertools.product(range(-2, 5), range(-2, 5), range(1, 5), range(1, 5)):
            self.check(outline, 4, 3, is_inside(outline, 4, 3))


class FirstHit(unittest.TestCase):
    def test_none_of_an_empty_list(self):
        self.assertIsNone(first_hit([], (0, 0, 1, 1)))

    def test_none_where_all_only_touch(self):
        self.assertIsNone(first_hit([(0, 0, 2, 2), (4, 0, 2, 2), (2, 2, 2, 2)], (2, 0, 2, 2)))

    def test_the_first(self):
        found = first_hit([(0, 0, 2, 2), (5, 5, 1, 1)], (1, 1, 2, 2))
        self.assertEqual(found, 0)
        self.assertIsNot(found, False)

    def test_a_later_one(self):
        self.assertEqual(first_hit([(9, 9, 1, 1), (5, 5, 1, 1), (0, 0, 2, 2)], (1, 1, 2, 2)), 2)

    def test_of_several_the_first_in_the_list_counts(self):
        # The later ones lie further left and lower: only the number in the list counts.
        outlines = [(9, 9, 1, 1), (3, 3, 2, 2), (0, 0, 5, 5), (1, 1, 1, 1)]
        self.assertEqual(first_hit(outlines, (1, 1, 4, 4)), 1)

    def test_outlines_of_the_list_may_overlap_and_begin_below_nought(self):
        self.assertEqual(first_hit([(-4, -4, 3, 3), (-2, -2, 3, 3), (-2, -2, 3, 3)], (0, 0, 1, 1)), 1)


class Fits(unittest.TestCase):
    def check(self, outlines, outline, width, height, expected):
        self.assertIs(fits(outlines, outline, width, height), expected, (outlines, outline, width, height))

    def test_an_empty_list(self):
        self.check([], (0, 0, 4, 3), 4, 3, True)
        self.check([], (1, 0, 4, 3), 4, 3, False)
        self.check([], (0, -1, 1, 1), 4, 3, False)

    def test_inside_but_overlapping(self):
        self.check([(0, 0, 1, 1), (3, 2, 1, 1)], (1, 0, 3, 3), 4, 3, False)

    def test_overlapping_none_but_not_inside(self):
        self.check([(0, 0, 1, 1)], (3, 0, 2, 1), 4, 3, False)

    def test_inside_and_only_touching(self):
        self.check([(0, 0, 1, 3), (1, 2, 3, 1)], (1, 0, 3, 2), 4, 3, True)

    def test_the_list_overlaps_itself_and_sticks_out(self):
        outlines = [(-2, -2, 4, 4), (-1, -1, 3, 3), (3, 0, 90, 1), (0, 4, 2, 90)]
        self.check(outlines, (2, 1, 3, 4), 5, 5, True)
        self.check(outlines, (2, 0, 1, 1), 5, 5, True)
        self.check(outlines, (1, 1, 2, 1), 5, 5, False)
        self.check(outlines, (3, 0, 1, 1), 5, 5, False)
        self.check(outlines, (1, 4, 1, 1), 5, 5, False)

    def test_nothing_holds_a_box_up(self):
        self.check([], (1, 2, 1, 1), 4, 4, True)

    def test_true_just_where_there_is_no_hit_and_the_outline_is_inside(self):
        draw = seeded(3)
        for _ in range(2000):
            outlines = drawn_outlines(draw, 3, 5)
            outline = (draw.randint(-1, 5), draw.randint(-1, 5), draw.randint(1, 3), draw.randint(1, 3))
            expected = does_fit(outlines, outline, 6, 5)
            self.check(outlines, outline, 6, 5, expected)
            self.assertEqual(expected, first_hit(outlines, outline) is None and inside(outline, 6, 5))


class HandedIn(unittest.TestCase):
    def test_lists_are_the_same_behind_each_call(self):
        outlines = [(5, 5, 2, 2), (0, 0, 2, 2), (1, 1, 2, 2), (-1, 0, 1, 1)]
        kept = copy.deepcopy(outlines)
        first_hit(outlines, (1, 1, 1, 1))
        first_hit(outlines, (8, 8, 1, 1))
        fits(outlines, (1, 1, 1, 1), 9, 9)
        fits(outlines, (8, 8, 1, 1), 9, 9)
        self.assertEqual(outlines, kept)

    def test_what_is_changed_afterwards_counts_in_the_next_call_alone(self):
        outlines = [(0, 0, 2, 2)]
        self.assertIs(fits(outlines, (0, 0, 1, 1), 4, 4), False)
        outlines.clear()
        self.assertIs(fits(outlines, (0, 0, 1, 1), 4, 4), True)
        outlines.extend([(3, 3, 1, 1), (0, 0, 1, 1)])
        self.assertEqual(first_hit(outlines, (0, 0, 1, 1)), 1)

    def test_no_error_somewhat_beyond_the_limits(self):
        self.assertIs(overlap((0, 0, MOST + 5, 1), (MOST + 4, 0, 1, 1)), True)
        self.assertIs(inside((MOST, 0, 1, 1), MOST + 1, MOST + 1), True)
        self.assertIs(fits([(0, 0, 1, 1)] * 80, (1, 0, 1, 1), 2, 1), True)
        self.assertIs(overlap((1, 1, 0, 2), (0, 0, 3, 3)), False)
        self.assertIs(overlap((1, 1, 2, 0), (0, 0, 3, 3)), False)


if __name__ == "__main__":
    unittest.main()
