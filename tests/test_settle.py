"""Point 12: settling, round by round."""

import time
import unittest

from packshelf.places import comes_ahead, first_place
from packshelf.racks import Rack
from tests.plain_rack import PlainRack, is_in_order, scattered, state
from tests.reference import drawn_shelf, seeded

MOST = 1000000
# Of these draws the boxes change their order on the way, or go in three rounds and more.
LONG_WAYS = (
    177, 247, 274, 322, 558, 576, 947, 1110, 1157, 1627, 1913, 2073, 2392, 2611, 2676, 2814, 2846, 3022, 3180, 3358,
    3632, 3701, 4358, 4653, 4995, 5595, 5598, 5607, 5744, 5753, 5773, 6338, 7007, 7391, 7707, 7928, 8037, 8073, 8248,
    8251, 8328, 8514, 8873, 8880, 9371, 9403, 9701, 9798, 9933, 10017, 15176, 17753, 19348,
)


def rack_of(shelves, calls):
    rack = Rack(shelves)
    for call in calls:
        rack.put_at(*call)
    return rack


def outlines_without(rack, name):
    """For each shelf its outlines, but for that of one box."""
    rows = [[] for _ in rack.shelves]
    for other in rack.names():
        if other != name:
            rows[rack.where(other)[0]].append(rack.outline(other))
    return rows


class Settling(unittest.TestCase):
    def check(self, shelves, calls, moves):
        """The moves are these, the boxes stand where they lead, and nothing is left to do."""
        rack = rack_of(shelves, calls)
        expected = {name: place for name, _, _, _, place in calls}
        for name, place, behind in moves:
            self.assertEqual(expected[name], place)
            expected[name] = behind
        found = rack.settle()
        self.assertEqual(found, moves)
        self.assertIs(type(found), list)
        self.assertEqual({name: rack.where(name) for name in rack.names()}, expected)
        self.assertEqual(rack.settle(), [])
        self.check_by_the_plain_rack(shelves, calls, moves)

    def check_by_the_plain_rack(self, shelves, calls, moves):
        plain = PlainRack(shelves)
        for call in calls:
            plain.put_at(*call)
        self.assertEqual(plain.settle(), moves)

    def test_an_empty_rack(self):
        self.check([(5, 5, "low")], [], [])

    def test_boxes_at_their_first_places_stay(self):
        rack = Rack([(5, 5, "low"), (5, 5, "left")])
        for name, width, height in (("a", 3, 3), ("b", 4, 4), ("c", 2, 1), ("d", 1, 5)):
            rack.put(name, width, height, True)
        ahead = state(rack)
        self.assertEqual(rack.settle(), [])
        self.assertEqual(state(rack), ahead)

    def test_one_box_by_the_habit(self):
        calls = [("a", 2, 1, False, (0, 3, 2, False))]
        for habit in ("low", "left"):
            self.check([(5, 5, habit)], calls, [("a", (0, 3, 2, False), (0, 0, 0, False))])

    def test_a_move_that_overlaps_the_boxs_own_old_place(self):
        for habit in ("low", "left"):
            moves = [("a", (0, 1, 1, False), (0, 0, 0, False))]
            self.check([(5, 5, habit)], [("a", 4, 4, False, (0, 1, 1, False))], moves)

    def test_on_to_a_shelf_ahead(self):
        calls = [("a", 2, 2, False, (2, 0, 0, False)), ("b", 3, 3, False, (1, 0, 0, False))]
        shelves = [(2, 2, "left"), (3, 3, "low"), (4, 4, "low")]
        self.check(shelves, calls, [("a", (2, 0, 0, False), (0, 0, 0, False))])

    def test_by_turning_alone(self):
        for habit in ("low", "left"):
            moves = [("a", (0, 0, 0, True), (0, 0, 0, False))]
            self.check([(5, 5, habit)], [("a", 2, 3, True, (0, 0, 0, True))], moves)
            self.check([(5, 5, habit)], [("a", 2, 2, True, (0, 0, 0, True))], moves)

    def test_upright_never_back_to_turned_at_one_spot(self):
        self.check([(5, 5, "low")], [("a", 2, 3, True, (0, 0, 0, False))], [])

    def test_turned_to_come_ahead(self):
        calls = [("a", 4, 5, False, (0, 0, 0, False)), ("b", 3, 1, True, (0, 5, 0, False))]
        self.check([(5, 6, "low")], calls, [("b", (0, 5, 0, False), (0, 0, 4, True))])

    def test_one_that_may_not_be_turned_stays(self):
        calls = [("a", 4, 5, False, (0, 0, 0, False)), ("b", 3, 1, False, (0, 5, 0, False))]
        self.check([(5, 6, "low")], calls, [])

    def test_the_order_of_the_places_and_not_of_the_names_or_the_puts(self):
        calls = [
            ("a", 1, 1, False, (0, 4, 4, False)),
            ("c", 1, 1, False, (0, 2, 3, False)),
            ("b", 1, 1, False, (0, 3, 2, False)),
        ]
        self.check([(5, 5, "low")], calls, [
            ("c", (0, 2, 3, False), (0, 0, 0, False)),
            ("b", (0, 3, 2, False), (0, 0, 1, False)),
            ("a", (0, 4, 4, False), (0, 0, 2, False)),
        ])
        self.check([(5, 5, "left")], calls, [
            ("b", (0, 3, 2, False), (0, 0, 0, False)),
            ("c", (0, 2, 3, False), (0, 1, 0, False)),
            ("a", (0, 4, 4, False), (0, 2, 0, False)),
        ])

    def test_the_others_stand_where_they_went_in_the_round(self):
        calls = [("a", 3, 2, False, (0, 1, 0, False)), ("b", 2, 2, False, (0, 3, 0, False))]
        self.check([(4, 6, "low")], calls, [
            ("a", (0, 1, 0, False), (0, 0, 0, False)),
            ("b", (0, 3, 0, False), (0, 2, 0, False)),
        ])

    def test_a_second_round_where_a_later_box_made_room(self):
        # In the first round b keeps a from the left side, and b goes behind a: so a goes in the second one.
        calls = [("a", 2, 3, False, (0, 0, 2, False)), ("b", 1, 2, False, (0, 1, 1, False))]
        self.check([(4, 3, "low")], calls, [
            ("b", (0, 1, 1, False), (0, 0, 0, False)),
            ("a", (0, 0, 2, False), (0, 0, 1, False)),
        ])

    def test_a_round_goes_by_the_places_as_they_stand_when_it_begins(self):
        # In the first round b goes behind c on the same row, so c is the one that goes ahead in the second.
        calls = [
            ("a", 1, 2, True, (0, 0, 0, True)),
            ("b", 1, 2, False, (0, 1, 0, False)),
            ("c", 1, 1, False, (0, 1, 2, False)),
        ]
        self.check([(4, 3, "low")], calls, [
            ("b", (0, 1, 0, False), (0, 0, 3, False)),
            ("c", (0, 1, 2, False), (0, 0, 2, False)),
            ("a", (0, 0, 0, True), (0, 0, 0, False)),
            ("c", (0, 0, 2, False), (0, 0, 1, False)),
            ("b", (0, 0, 3, False), (0, 0, 2, False)),
        ])

    def test_lists_of_moves_are_the_askers_own(self):
        rack = rack_of([(5, 5, "low")], [("a", 2, 1, False, (0, 3, 2, False))])
        moves = rack.settle()
        rack.take_out("a")
        rack.put_at("a", 2, 1, False, (0, 3, 2, False))
        self.assertEqual(moves, [("a", (0, 3, 2, False), (0, 0, 0, False))])
        moves.clear()
        self.assertEqual(rack.settle(), [("a", (0, 3, 2, False), (0, 0, 0, False))])


def crowded(seed):
    """One shelf, and calls that fill it; some seeds give racks that take many rounds."""
    draw = seeded(seed)
    shelves = [(draw.randint(4, 11), draw.randint(4, 11), draw.choice(("low", "left")))]
    return shelves, scattered(draw, shelves, 120, 5, 9)


class AgainstAPlainSearch(unittest.TestCase):
    def check(self, shelves, calls):
        rack, plain = rack_of(shelves, calls), PlainRack(shelves)
        for call in calls:
            plain.put_at(*call)
        self.assertEqual(rack.settle(), plain.settle(), (shelves, calls))
        self.assertEqual(state(rack), state(plain))
        self.assertTrue(is_in_order(rack))
        self.check_settled(rack)

    def check_settled(self, rack):
        """Each box stands at its first place among the others."""
        for name in rack.names():
            _, width, height, turns = rack.box(name)
            first = first_place(rack.shelves, outlines_without(rack, name), width, height, turns)
            self.assertEqual(rack.where(name), first)
        self.assertEqual(rack.settle(), [])

    def test_drawn_racks(self):
        draw = seeded(12)
        for _ in range(500):
            shelves = [drawn_shelf(draw, 6) for _ in range(draw.randint(1, 3))]
            self.check(shelves, scattered(draw, shelves, 14, 4))

    def test_one_crowded_shelf(self):
        draw = seeded(15)
        for _ in range(150):
            shelves = [(7, 7, draw.choice(("low", "left")))]
            self.check(shelves, scattered(draw, shelves, 40, 3))

    def test_racks_that_take_many_rounds(self):
        for seed in LONG_WAYS:
            self.check(*crowded(seed))

    def test_behind_boxes_that_were_put_and_taken_out(self):
        draw = seeded(16)
        for _ in range(200):
            shelves = [drawn_shelf(draw, 7) for _ in range(2)]
            rack = Rack(shelves)
            plain = PlainRack(shelves)
            for _, width, height, turns, _ in scattered(draw, shelves, 20, 3):
                name = f"n{len(plain.boxes)}"
                rack.put(name, width, height, turns)
                plain.put(name, width, height, turns)
            for name in plain.names()[::3]:
                self.assertEqual(rack.take_out(name), plain.take_out(name))
            self.assertEqual(rack.settle(), plain.settle())
            self.assertEqual(state(rack), state(plain))
            self.check_settled(rack)


class GreatRacks(unittest.TestCase):
    def test_ninety_boxes_settle_far_below_the_time_that_anybody_waits(self):
        draw = seeded(17)
        for many, habit in ((1, "low"), (1, "left"), (9, "left")):
            rack = Rack([(MOST, MOST, habit)] * many)
            for number in range(90):
                # Each box in a field of its own, so that none is refused.
                row, column = number // 10, number - number // 10 * 10
                width, height = draw.randint(1, 60000), draw.randint(1, 60000)
                left, up = column * 100000 + draw.randint(0, 40000), row * 100000 + draw.randint(0, 40000)
                place = (draw.randint(0, many - 1), up, left, draw.choice((True, False)))
                rack.put_at(f"b{number}", width, height, True, place)
            begun = time.process_time()
            moves = rack.settle()
            self.assertLess(time.process_time() - begun, 5)
            self.assertGreaterEqual(len(moves), 80)
            for _, place, behind in moves:
                self.assertTrue(comes_ahead(rack.shelves, behind, place))
            self.assertEqual(rack.settle(), [])


if __name__ == "__main__":
    unittest.main()
