"""Points 1, 4, 5, 8 to 11 and 13: racks, and the boxes that are put and taken out."""

import copy
import time
import unittest

import packshelf.racks
from packshelf.errors import NoBox, NoRoom, NoShelf, Twice, Unknown
from packshelf.racks import Rack
from tests.plain_rack import PlainRack, drawn_place, is_in_order, state, told
from tests.reference import drawn_shelf, seeded
from tests.refusals import Refusals

MOST = 1000000
NO_NAMES = (
    "", "a" * 13, "A", "aB", "a b", " a", "a ", "a-b", "a_b", "a.b", "a\n", "\n", "a\tb", "{", "`", "/", ":",
    "\u00e4", "\u0661", "\u00b2", "\uff41", "a\u0000",
)
NAMES = ("a", "z", "0", "9", "box", "007", "abcdefghijkl", "mnopqrstuvwx", "yz0123456789")


class Interface(unittest.TestCase):
    def test_the_class_and_its_methods_are_defined_where_the_document_lists_them(self):
        self.assertEqual(Rack.__module__, "packshelf.racks")
        self.assertIs(packshelf.racks.Rack, Rack)
        for name in ("put", "put_at", "take_out", "where", "box", "outline", "names", "free", "settle"):
            self.assertIn(name, vars(Rack))
        self.assertIn("shelves", vars(Rack([(1, 1, "low")])))

    def test_arguments_may_be_given_by_their_names(self):
        rack = Rack(shelves=[(5, 5, "low")])
        self.assertEqual(rack.put(name="a", width=2, height=1, turns=False), (0, 0, 0, False))
        self.assertIsNone(rack.put_at(name="b", width=2, height=1, turns=True, place=(0, 1, 0, True)))
        self.assertEqual(rack.where(name="b"), (0, 1, 0, True))
        self.assertEqual(rack.box(name="b"), ("b", 2, 1, True))
        self.assertEqual(rack.outline(name="b"), (0, 1, 1, 2))
        self.assertEqual(rack.free(number=0), 21)
        self.assertEqual(rack.take_out(name="a"), (0, 0, 0, False))


class Shelves(unittest.TestCase, Refusals):
    def test_one_to_nine_shelves(self):
        for many in range(1, 10):
            shelves = [(many, 2, "low")] * many
            self.assertEqual(Rack(shelves).shelves, shelves)

    def test_no_shelves_or_too_many(self):
        self.check_refused(NoShelf, Rack, [])
        self.check_refused(NoShelf, Rack, [(2, 2, "low")] * 10)
        self.check_refused(NoShelf, Rack, [(2, 2, "low")] * 40)

    def test_the_least_and_the_greatest_sides(self):
        for shelf in ((1, 1, "low"), (MOST, MOST, "left"), (1, MOST, "left"), (MOST, 1, "low")):
            self.assertEqual(Rack([shelf]).shelves, [shelf])

    def test_sides_beyond_the_limits(self):
        for side in (0, -1, -MOST, MOST + 1, 9999999):
            self.check_refused(NoShelf, Rack, [(side, 5, "low")])
            self.check_refused(NoShelf, Rack, [(5, side, "left")])
            self.check_refused(NoShelf, Rack, [(5, 5, "left"), (5, 5, "low"), (5, side, "low")])

    def test_another_habit(self):
        for habit in ("", "high", "Low", "LEFT", "lo", "lowleft", "low ", "\nleft", "right", "lef"):
            self.check_refused(NoShelf, Rack, [(5, 5, habit)])
            self.check_refused(NoShelf, Rack, [(5, 5, "low"), (5, 5, habit)])

    def test_the_field_is_a_list_of_its_own(self):
        handed = [(5, 5, "low"), (3, 3, "left")]
        rack, other = Rack(handed), Rack(handed)
        self.assertIs(type(rack.shelves), list)
        handed.clear()
        self.assertEqual(rack.shelves, [(5, 5, "low"), (3, 3, "left")])
        rack.shelves.append((1, 1, "low"))
        self.assertEqual(handed, [])
        self.assertEqual(other.shelves, [(5, 5, "low"), (3, 3, "left")])

    def test_what_is_done_to_the_lists_changes_no_rack(self):
        handed = [(2, 2, "low"), (3, 3, "left")]
        rack = Rack(handed)
        handed[0] = (9, 9, "low")
        rack.shelves[0] = (9, 9, "low")
        rack.shelves.append((9, 9, "low"))
        self.check_refused(NoShelf, rack.free, 2)
        self.check_refused(NoRoom, rack.put_at, "a", 3, 3, False, (0, 0, 0, False))
        self.check_refused(NoRoom, rack.put_at, "a", 3, 3, False, (2, 0, 0, False))
        self.assertEqual(rack.put("a", 3, 3, False), (1, 0, 0, False))
        rack.shelves.clear()
        self.check_refused(NoRoom, rack.put, "b", 3, 3, False)
        self.assertEqual(rack.put("b", 1, 1, False), (0, 0, 0, False))
        self.assertEqual((rack.free(0), rack.free(1), rack.names()), (3, 0, ["b", "a"]))
        self.assertEqual(rack.settle(), [])

    def test_the_field_stays_as_it_is_whatever_is_done(self):
        rack = Rack([(5, 5, "low"), (3, 3, "left")])
        field = rack.shelves
        rack.put("a", 4, 4, False)
        rack.put_at("b", 2, 2, False, (1, 1, 1, False))
        rack.settle()
        rack.take_out("a")
        self.assertIs(rack.shelves, field)
        self.assertEqual(field, [(5, 5, "low"), (3, 3, "left")])

    def test_the_handed_list_is_the_same_behind_the_calls(self):
        handed = [(5, 5, "low"), (3, 3, "left")]
        kept = copy.deepcopy(handed)
        rack = Rack(handed)
        rack.put("a", 4, 4, False)
        rack.settle()
        self.assertEqual(handed, kept)


class Putting(unittest.TestCase, Refusals):
    def setUp(self):
        self.rack = Rack([(5, 4, "low"), (3, 6, "left")])

    def test_each_box_at_its_first_place(self):
        self.assertEqual(self.rack.put("a", 3, 2, False), (0, 0, 0, False))
        self.assertEqual(self.rack.put("b", 2, 1, False), (0, 0, 3, False))
        self.assertEqual(self.rack.put("c", 2, 1, False), (0, 1, 3, False))
        self.assertEqual(self.rack.put("d", 3, 3, False), (1, 0, 0, False))
        self.assertEqual(self.rack.put("e", 5, 2, True), (0, 2, 0, False))
        self.assertEqual(self.rack.put("f", 3, 2, True), (1, 3, 0, False))
        self.check_refused(NoRoom, self.rack.put, "g", 2, 2, True)
        self.assertEqual(self.rack.put("g", 1, 1, False), (1, 5, 0, False))

    def test_turned_where_it_may_be_and_that_comes_ahead(self):
        self.assertEqual(self.rack.put("a", 4, 4, False), (0, 0, 0, False))
        self.assertEqual(self.rack.put("b", 4, 1, True), (0, 0, 4, True))
        self.assertEqual(self.rack.outline("b"), (4, 0, 1, 4))
        self.assertEqual(self.rack.box("b"), ("b", 4, 1, True))
        self.check_refused(NoRoom, self.rack.put, "c", 4, 1, False)

    def test_upright_ahead_of_turned(self):
        self.assertEqual(self.rack.put("a", 2, 3, True), (0, 0, 0, False))

    def test_every_name_that_is_one(self):
        rack = Rack([(99, 99, "low")])
        for name in NAMES:
            self.assertIs(type(rack.put(name, 1, 1, False)), tuple)
            rack.put_at(name[::-1][:11] + "x", 1, 1, False, (0, 50, len(rack.names()), False))
        for name in NAMES:
            self.assertEqual(rack.box(name), (name, 1, 1, False))

    def test_every_sign_that_a_name_may_have_and_no_other(self):
        rack = Rack([(99, 99, "low")])
        for code in range(0, 300):
            if chr(code) in "abcdefghijklmnopqrstuvwxyz0123456789":
                rack.put(chr(code), 1, 1, False)
            else:
                self.check_refused(NoBox, rack.put, chr(code), 1, 1, False)
                self.check_refused(NoBox, rack.put, "a" + chr(code), 1, 1, False)
        self.assertEqual("".join(rack.names()), "0123456789abcdefghijklmnopqrstuvwxyz")

    def test_names_that_are_none(self):
        for name in NO_NAMES:
            self.check_refused(NoBox, self.rack.put, name, 1, 1, False)
            self.check_refused(NoBox, self.rack.put_at, name, 1, 1, False, (0, 0, 0, False))
        self.assertEqual(self.rack.names(), [])

    def test_sides_beyond_the_limits(self):
        for side in (0, -1, -MOST, MOST + 1, 9999999):
            self.check_refused(NoBox, self.rack.put, "a", side, 1, True)
            self.check_refused(NoBox, self.rack.put, "a", 1, side, False)
            self.check_refused(NoBox, self.rack.put_at, "a", side, 1, True, (0, 0, 0, False))
            self.check_refused(NoBox, self.rack.put_at, "a", 1, side, False, (0, 0, 0, True))
        self.assertEqual(self.rack.names(), [])

    def test_the_greatest_sides_are_no_wrong_ones(self):
        self.check_refused(NoRoom, self.rack.put, "a", MOST, MOST, True)
        rack = Rack([(MOST, MOST, "left")])
        self.assertEqual(rack.put("a", MOST, MOST, True), (0, 0, 0, False))
        self.assertEqual(rack.free(0), 0)

    def test_a_name_that_stands_there(self):
        self.rack.put("a", 1, 1, False)
        self.check_refused(Twice, self.rack.put, "a", 1, 1, False)
        self.check_refused(Twice, self.rack.put, "a", 2, 3, True)
        self.check_refused(Twice, self.rack.put_at, "a", 1, 1, False, (0, 2, 2, False))
        self.assertEqual(self.rack.where("a"), (0, 0, 0, False))
        self.assertEqual(self.rack.box("a"), ("a", 1, 1, False))

    def test_no_room(self):
        self.check_refused(NoRoom, self.rack.put, "a", 6, 1, False)
        self.check_refused(NoRoom, self.rack.put, "a", 1, 7, False)
        self.check_refused(NoRoom, self.rack.put, "a", 4, 5, False)
        self.check_refused(NoRoom, self.rack.put, "a", 5, 5, True)
        self.rack.put("b", 5, 4, False)
        self.rack.put("c", 3, 6, False)
        self.check_refused(NoRoom, self.rack.put, "a", 1, 1, True)

    def test_the_order_of_the_refusals(self):
        self.rack.put("a", 1, 1, False)
        place = (9, 9, 9, True)
        for side in (0, MOST + 1):
            self.check_refused(NoBox, self.rack.put, "a", side, 50, False)
            self.check_refused(NoBox, self.rack.put, "a", 50, side, False)
            self.check_refused(NoBox, self.rack.put_at, "a", side, 50, False, place)
            self.check_refused(NoBox, self.rack.put_at, "a", 50, side, False, place)
        self.check_refused(NoBox, self.rack.put, "A", 50, 50, False)
        self.check_refused(NoBox, self.rack.put_at, "A", 50, 50, False, place)
        self.check_refused(Twice, self.rack.put, "a", 50, 50, False)
        self.check_refused(Twice, self.rack.put_at, "a", 50, 50, False, place)
        self.check_refused(NoRoom, self.rack.put, "b", 50, 50, False)
        self.check_refused(NoRoom, self.rack.put_at, "b", 50, 50, False, place)


class PuttingAt(unittest.TestCase, Refusals):
    def setUp(self):
        self.rack = Rack([(5, 4, "low"), (3, 6, "left")])

    def test_at_the_place_that_is_told(self):
        self.assertIsNone(self.rack.put_at("a", 3, 2, False, (0, 2, 1, False)))
        self.assertEqual(self.rack.where("a"), (0, 2, 1, False))
        self.assertEqual(self.rack.outline("a"), (1, 2, 3, 2))
        self.assertIsNone(self.rack.put_at("b", 5, 2, True, (1, 1, 1, True)))
        self.assertEqual(self.rack.where("b"), (1, 1, 1, True))
        self.assertEqual(self.rack.outline("b"), (1, 1, 2, 5))
        self.assertEqual(self.rack.box("b"), ("b", 5, 2, True))

    def test_boxes_that_touch(self):
        self.rack.put_at("a", 1, 2, False, (0, 1, 2, False))
        for name, place in (("b", (0, 1, 1, False)), ("c", (0, 1, 3, False))):
            self.rack.put_at(name, 1, 2, False, place)
        self.rack.put_at("d", 5, 1, False, (0, 0, 0, False))
        self.rack.put_at("e", 5, 1, False, (0, 3, 0, False))
        self.assertEqual(self.rack.free(0), 4)

    def test_a_box_that_may_be_turned_may_stand_upright(self):
        self.rack.put_at("a", 2, 3, True, (0, 1, 1, False))
        self.assertEqual(self.rack.outline("a"), (1, 1, 2, 3))

    def test_a_square_may_be_turned(self):
        self.rack.put_at("a", 2, 2, True, (0, 1, 1, True))
        self.assertEqual(self.rack.where("a"), (0, 1, 1, True))
        self.assertEqual(self.rack.take_out("a"), (0, 1, 1, True))

    def test_turned_though_it_may_not_be(self):
        self.check_refused(NoRoom, self.rack.put_at, "a", 2, 3, False, (0, 0, 0, True))
        self.check_refused(NoRoom, self.rack.put_at, "a", 2, 2, False, (0, 0, 0, True))

    def test_no_shelf_of_that_number(self):
        for number in (-9, -2, -1, 2, 3, 9999999):
            self.check_refused(NoRoom, self.rack.put_at, "a", 1, 1, True, (number, 0, 0, False))
            self.check_refused(NoRoom, self.rack.put_at, "a", 1, 1, True, (number, 0, 0, True))

    def test_it_sticks_out(self):
        for place in ((0, 0, -1, False), (0, -1, 0, False), (0, 0, 4, False), (0, 2, 0, False), (0, 9, 9, False)):
            self.check_refused(NoRoom, self.rack.put_at, "a", 2, 3, True, place)
        for place in ((0, 0, -1, True), (0, -1, 0, True), (0, 0, 3, True), (0, 3, 0, True)):
            self.check_refused(NoRoom, self.rack.put_at, "a", 2, 3, True, place)
        self.rack.put_at("a", 2, 3, True, (0, 1, 3, False))
        self.rack.put_at("b", 2, 3, True, (0, 2, 0, True))

    def test_another_box_is_there(self):
        self.rack.put_at("a", 2, 2, False, (0, 1, 2, False))
        for place in ((0, 0, 1, False), (0, 2, 3, False), (0, 2, 1, False), (0, 0, 3, False), (0, 1, 2, False)):
            self.check_refused(NoRoom, self.rack.put_at, "b", 2, 2, False, place)
        self.check_refused(NoRoom, self.rack.put_at, "b", 3, 1, True, (0, 1, 3, True))
        self.rack.put_at("b", 2, 2, False, (1, 1, 1, False))
        self.rack.put_at("c", 3, 1, True, (0, 1, 4, True))

    def test_it_would_fit_the_other_way_alone(self):
        self.check_refused(NoRoom, self.rack.put_at, "a", 5, 2, True, (1, 0, 0, False))
        self.check_refused(NoRoom, self.rack.put_at, "a", 5, 2, True, (0, 0, 0, True))
        self.rack.put_at("a", 5, 2, True, (1, 0, 0, True))
        self.rack.put_at("b", 5, 2, True, (0, 0, 0, False))


class TakingOut(unittest.TestCase, Refusals):
    def setUp(self):
        self.rack = Rack([(5, 4, "low"), (3, 6, "left")])
        self.rack.put("a", 3, 2, False)
        self.rack.put_at("b", 2, 3, True, (1, 2, 0, True))

    def test_the_place_is_given_and_the_box_stands_there_no_more(self):
        self.assertEqual(self.rack.take_out("b"), (1, 2, 0, True))
        self.assertEqual(self.rack.names(), ["a"])
        self.assertEqual(self.rack.free(1), 18)
        for ask in (self.rack.where, self.rack.box, self.rack.outline, self.rack.take_out):
            self.check_refused(Unknown, ask, "b")
        self.assertEqual(self.rack.where("a"), (0, 0, 0, False))

    def test_its_room_and_its_name_may_be_used_again(self):
        self.rack.take_out("a")
        self.assertEqual(self.rack.put("c", 1, 1, False), (0, 0, 0, False))
        self.assertEqual(self.rack.put("a", 4, 1, True), (0, 0, 1, False))
        self.assertEqual(self.rack.box("a"), ("a", 4, 1, True))
        self.rack.take_out("a")
        self.rack.put_at("a", 2, 2, False, (0, 1, 1, False))
        self.assertEqual(self.rack.where("a"), (0, 1, 1, False))

    def test_names_that_no_box_has(self):
        for name in ("c", "", "A", "aa", "a ", "no name at all", "a" * 13):
            for ask in (self.rack.where, self.rack.box, self.rack.outline, self.rack.take_out):
                self.check_refused(Unknown, ask, name)
        self.assertEqual(self.rack.names(), ["a", "b"])

    def test_taken_out_twice(self):
        self.rack.take_out("a")
        self.check_refused(Unknown, self.rack.take_out, "a")


class Asking(unittest.TestCase, Refusals):
    def test_an_empty_rack(self):
        rack = Rack([(5, 4, "low"), (3, 6, "left")])
        self.assertEqual((rack.names(), rack.free(0), rack.free(1)), ([], 20, 18))
        self.check_refused(Unknown, rack.where, "a")

    def test_names_in_the_order_of_their_places(self):
        rack = Rack([(20, 20, "left"), (20, 20, "low")])
        places = {
            "e": (1, 12, 0, False), "i": (1, 2, 9, True), "a": (1, 2, 3, False), "g": (1, 0, 11, False),
            "c": (0, 0, 13, False), "h": (0, 11, 2, True), "b": (0, 9, 2, False), "f": (0, 10, 0, False),
            "d": (0, 3, 0, True),
        }
        for name, place in places.items():
            rack.put_at(name, 1, 1, True, place)
        self.assertEqual(rack.names(), list("dfbhcgaie"))

    def test_lists_are_the_askers_own(self):
        rack = Rack([(5, 4, "low")])
        rack.put("a", 1, 1, False)
        names = rack.names()
        rack.put("b", 1, 1, False)
        self.assertEqual(names, ["a"])
        rack.names().clear()
        rack.names().append("x")
        self.assertEqual(rack.names(), ["a", "b"])

    def test_kinds_of_the_answers(self):
        rack = Rack([(5, 4, "low")])
        rack.put("a", 2, 1, True)
        self.assertIs(type(rack.names()), list)
        for answer in (rack.where("a"), rack.box("a"), rack.outline("a")):
            self.assertIs(type(answer), tuple)
        self.assertIs(rack.box("a")[3], True)
        self.assertIs(rack.where("a")[3], False)

    def test_free_counts_each_shelf_by_itself(self):
        rack = Rack([(5, 4, "low"), (3, 6, "left")])
        rack.put_at("a", 3, 2, True, (0, 0, 0, True))
        rack.put_at("b", 1, 1, True, (0, 0, 2, False))
        rack.put_at("c", 3, 6, False, (1, 0, 0, False))
        self.assertEqual((rack.free(0), rack.free(1)), (13, 0))
        self.assertEqual(rack.take_out("c"), (1, 0, 0, False))
        self.assertEqual((rack.free(0), rack.free(1)), (13, 18))

    def test_free_of_a_shelf_that_is_none(self):
        rack = Rack([(5, 4, "low"), (3, 6, "left")])
        for number in (-3, -2, -1, 2, 3, 9999999):
            self.check_refused(NoShelf, rack.free, number)

    def test_free_of_great_shelves(self):
        rack = Rack([(MOST, MOST, "low"), (MOST, MOST, "left")])
        self.assertEqual(rack.free(1), MOST * MOST)
        rack.put("a", 999999, 3, False)
        self.assertEqual(rack.free(0), MOST * MOST - 2999997)


def drawn_call(draw, plain):
    """A call that both kinds of racks know: its name and its arguments, often such as is refused."""
    name = draw.choice(tuple("abcdefgh") + ("", "A"))
    width, height = draw.randint(1, 4), draw.randint(1, 4)
    if draw.random() < 0.04:
        width, height = draw.choice(((0, 2), (2, 0), (-1, 1), (1, MOST + 1), (9, 1)))
    turns = draw.choice((True, False))
    kind = draw.choice(("put", "put", "put_at", "put_at", "put_at", "take_out", "settle", "asked"))
    if kind == "put":
        return ("put", name, width, height, turns)
    if kind == "put_at":
        return ("put_at", name, width, height, turns, drawn_place(draw, plain.shelves, 5))
    if kind == "take_out":
        return ("take_out", name)
    if kind == "settle":
        return ("settle",)
    if draw.random() < 0.3:
        return ("free", draw.randint(-2, len(plain.shelves) + 1))
    return (draw.choice(("where", "box", "outline")), name)


class AnyOrder(unittest.TestCase):
    """Point 13, and 9 to 12 with it: whatever is done, against a plain search through all places."""

    def check_alike(self, rack, plain, call):
        """One call on both racks: the same answer, and nothing is changed by a refusal."""
        ahead = state(rack)
        expected = told(getattr(plain, call[0]), *call[1:])
        found = told(getattr(rack, call[0]), *call[1:])
        self.assertEqual(found, expected, (call, ahead))
        self.assertEqual(state(rack), state(plain), (call, ahead))
        if found[0] == "refused":
            self.assertEqual(state(rack), ahead, call)
        self.assertTrue(is_in_order(rack), (call, ahead))

    def test_drawn_calls(self):
        draw = seeded(13)
        for _ in range(800):
            shelves = [drawn_shelf(draw, 6) for _ in range(draw.randint(1, 3))]
            rack, plain = Rack(shelves), PlainRack(shelves)
            for _ in range(25):
                self.check_alike(rack, plain, drawn_call(draw, plain))

    def test_two_racks_know_nothing_of_one_another(self):
        draw = seeded(14)
        for _ in range(40):
            shelves = [drawn_shelf(draw, 6) for _ in range(2)]
            pairs = [(Rack(shelves), PlainRack(shelves)) for _ in range(2)]
            for _ in range(20):
                rack, plain = draw.choice(pairs)
                self.check_alike(rack, plain, drawn_call(draw, plain))
                for rack, plain in pairs:
                    self.assertEqual(state(rack), state(plain))

    def test_every_place_of_a_small_rack(self):
        shelves = [(3, 2, "low"), (2, 3, "left")]
        for turns in (True, False):
            for number in range(-2, 4):
                for up, left in [(up, left) for up in range(-2, 5) for left in range(-2, 5)]:
                    for turned in (True, False):
                        rack, plain = Rack(shelves), PlainRack(shelves)
                        for name, place in (("b", (0, 1, 1, False)), ("c", (1, 2, 0, False))):
                            self.check_alike(rack, plain, ("put_at", name, 1, 1, False, place))
                        call = ("put_at", "a", 2, 1, turns, (number, up, left, turned))
                        self.check_alike(rack, plain, call)


class GreatRacks(unittest.TestCase):
    def test_ninety_boxes_are_put_far_below_the_time_that_anybody_waits(self):
        begun = time.process_time()
        rack = Rack([(MOST, MOST, "low"), (MOST, MOST, "left")])
        draw = seeded(90)
        for number in range(90):
            rack.put(f"b{number}", draw.randint(1, 150000), draw.randint(1, 150000), True)
        self.assertEqual(len(rack.names()), 90)
        self.assertLess(time.process_time() - begun, 5)


if __name__ == "__main__":
    unittest.main()
