"""Points 16 and 17: a rack written as rows, and read from them."""

import re
import time
import unittest

import packshelf.notes
from packshelf.errors import NoBox, NoNote, NoRoom, NoShelf, Twice
from packshelf.notes import read, written
from packshelf.racks import Rack
from tests.plain_rack import PlainRack, scattered, state, told
from tests.reference import drawn_shelf, seeded
from tests.refusals import Refusals

MOST = 1000000
NUMBER = "(0|[1-9][0-9]{0,6})"
SHELF_ROW = re.compile(f"shelf {NUMBER} {NUMBER} (low|left)\n")
BOX_ROW = re.compile(f"box ([^ \n]+) {NUMBER} {NUMBER} (turns|stays) {NUMBER} {NUMBER} {NUMBER} (turned|upright)\n")
NOTE = re.compile(f"({SHELF_ROW.pattern})+({BOX_ROW.pattern})*")

TEXT = (
    "shelf 5 4 low\n"
    "shelf 3 1000000 left\n"
    "box a 3 2 turns 0 0 0 turned\n"
    "box b7 1 1 stays 0 1 4 upright\n"
    "box c 3 999999 stays 1 1 0 upright\n"
)


def plainly_read(text):
    """The same by the document's words: a plain rack."""
    if not NOTE.fullmatch(text):
        raise NoNote(text)
    shelves = [(int(row[0]), int(row[1]), row[2]) for row in SHELF_ROW.findall(text)]
    if len(shelves) > 9 or any(side not in range(1, MOST + 1) for shelf in shelves for side in shelf[:2]):
        raise NoShelf(text)
    plain = PlainRack(shelves)
    for name, width, height, may, number, up, left, way in BOX_ROW.findall(text):
        place = (int(number), int(up), int(left), way == "turned")
        plain.put_at(name, int(width), int(height), may == "turns", place)
    return plain


def with_row(at, row):
    """The text with another row, or with none, in the place of that one."""
    rows = TEXT.splitlines(keepends=True)
    rows[at:at + 1] = [row]
    return "".join(rows)


class Written(unittest.TestCase):
    def test_the_functions_are_defined_where_the_document_lists_them(self):
        for ask in (read, written):
            self.assertEqual(ask.__module__, "packshelf.notes")
            self.assertIs(getattr(packshelf.notes, ask.__name__), ask)

    def test_shelves_alone(self):
        self.assertEqual(written(Rack([(5, 4, "low")])), "shelf 5 4 low\n")
        self.assertEqual(
            written(Rack([(3, MOST, "left"), (1, 1, "low"), (3, MOST, "left")])),
            "shelf 3 1000000 left\nshelf 1 1 low\nshelf 3 1000000 left\n",
        )

    def test_every_word_of_a_box(self):
        rack = Rack([(90, 80, "low"), (70, 60, "left")])
        rack.put_at("abc123", 11, 12, True, (1, 13, 14, True))
        rack.put_at("z", 21, 22, True, (1, 33, 34, False))
        rack.put_at("0", 31, 32, False, (0, 3, 4, False))
        self.assertEqual(
            written(rack),
            "shelf 90 80 low\nshelf 70 60 left\n"
            "box 0 31 32 stays 0 3 4 upright\n"
            "box abc123 11 12 turns 1 13 14 turned\n"
            "box z 21 22 turns 1 33 34 upright\n",
        )

    def test_boxes_in_the_order_of_their_places(self):
        rack = Rack([(9, 9, "left"), (9, 9, "low")])
        for name, place in (("a", (1, 2, 0)), ("d", (1, 1, 7)), ("b", (0, 1, 7)), ("c", (0, 2, 0))):
            rack.put_at(name, 1, 1, False, (*place, False))
        self.assertEqual([row.split()[1] for row in written(rack).splitlines()[2:]], list("cbda"))

    def test_what_is_done_to_the_field_is_not_written(self):
        rack = Rack([(5, 4, "low")])
        rack.shelves.append((1, 1, "low"))
        self.assertEqual(written(rack), "shelf 5 4 low\n")

    def test_writing_changes_nothing(self):
        rack = read(TEXT)
        ahead = state(rack)
        self.assertEqual(written(rack), written(rack))
        self.assertEqual(state(rack), ahead)

    def test_as_it_stands_now(self):
        rack = read(TEXT)
        rack.take_out("a")
        rack.settle()
        self.assertEqual(
            written(rack),
            "shelf 5 4 low\nshelf 3 1000000 left\n"
            "box b7 1 1 stays 0 0 0 upright\nbox c 3 999999 stays 1 0 0 upright\n",
        )


class Read(unittest.TestCase, Refusals):
    def test_a_rack_with_its_boxes_at_their_places(self):
        rack = read(TEXT)
        self.assertIs(type(rack), Rack)
        self.assertEqual(rack.shelves, [(5, 4, "low"), (3, MOST, "left")])
        self.assertEqual(rack.names(), ["a", "b7", "c"])
        self.assertEqual(rack.box("a"), ("a", 3, 2, True))
        self.assertEqual(rack.box("b7"), ("b7", 1, 1, False))
        self.assertEqual(rack.where("a"), (0, 0, 0, True))
        self.assertEqual(rack.where("b7"), (0, 1, 4, False))
        self.assertEqual(rack.where("c"), (1, 1, 0, False))
        for flag in (rack.box("a")[3], rack.box("b7")[3], rack.where("a")[3], rack.where("b7")[3]):
            self.assertIs(type(flag), bool)
        self.assertEqual(written(rack), TEXT)

    def test_shelves_alone(self):
        rack = read("shelf 5 4 low\nshelf 1 1000000 left\n")
        self.assertEqual((rack.shelves, rack.names()), ([(5, 4, "low"), (1, MOST, "left")], []))

    def test_boxes_stay_where_they_were_though_they_could_settle(self):
        rack = read("shelf 9 9 low\nbox a 2 1 turns 0 7 6 turned\n")
        self.assertEqual(rack.where("a"), (0, 7, 6, True))
        self.assertEqual(rack.settle(), [("a", (0, 7, 6, True), (0, 0, 0, False))])

    def test_two_readings_give_two_racks(self):
        one, other = read(TEXT), read(TEXT)
        one.take_out("a")
        self.assertEqual(written(other), TEXT)

    def test_names_that_are_words_of_a_note_too(self):
        text = "shelf 9 9 low\nbox box 1 1 stays 0 0 0 upright\nbox shelf 1 1 stays 0 0 1 upright\n"
        self.assertEqual(read(text).names(), ["box", "shelf"])
        self.assertEqual(written(read(text)), text)

    def test_no_row_of_a_shelf(self):
        for text in ("", "box a 1 1 stays 0 0 0 upright\n", "\n", " ", " \n", "shelf", "a\n"):
            self.check_refused(NoNote, read, text)

    def test_line_ends(self):
        self.check_refused(NoNote, read, TEXT[:-1])
        self.check_refused(NoNote, read, "shelf 5 4 low")
        self.check_refused(NoNote, read, TEXT + "\n")
        self.check_refused(NoNote, read, "\n" + TEXT)
        self.check_refused(NoNote, read, TEXT.replace("\n", "\n\n"))
        for end in ("\r\n", "\r", "\n\r", "\f", "\v", "\u2028", "\u0085", "\x1c", " \n", "\n ", "\t\n", ""):
            self.check_refused(NoNote, read, TEXT.replace("\n", end))
            self.check_refused(NoNote, read, TEXT.replace("\n", end, 1))

    def test_a_last_row_without_a_line_end(self):
        for row in ("x", " ", "\r", "shelf 5 4 low", "box d 1 1 stays 0 3 4 upright"):
            self.check_refused(NoNote, read, TEXT + row)

    def test_one_blank_between_words(self):
        for blank in ("  ", "\t", "", "\u00a0", "_", "\r", "   "):
            for row in TEXT.splitlines()[1:3]:
                for at in range(row.count(" ")):
                    words = row.split(" ")
                    words[at:at + 2] = [words[at] + blank + words[at + 1]]
                    self.check_refused(NoNote, read, TEXT.replace(row, " ".join(words)))
        for row in TEXT.splitlines():
            self.check_refused(NoNote, read, TEXT.replace(row, row + " "))
            self.check_refused(NoNote, read, TEXT.replace(row, " " + row))

    def test_words_too_many_or_too_few(self):
        for row in TEXT.splitlines():
            words = row.split(" ")
            for at in range(len(words)):
                fewer = " ".join(words[:at] + words[at + 1:])
                self.check_refused(NoNote, read, TEXT.replace(row, fewer))
                more = " ".join(words[:at] + [words[at]] + words[at:])
                self.check_refused(NoNote, read, TEXT.replace(row, more))
            self.check_refused(NoNote, read, TEXT.replace(row, row + " 1"))

    def test_rows_of_shelves_behind_one_of_a_box(self):
        self.check_refused(NoNote, read, TEXT + "shelf 5 4 low\n")
        self.check_refused(NoNote, read, with_row(2, "box a 3 2 turns 0 0 0 turned\nshelf 5 4 low\n"))
        self.check_refused(NoNote, read, "box a 1 1 stays 0 0 0 upright\nshelf 5 4 low\n")

    def test_rows_of_another_kind(self):
        for row in ("shelves 5 4 low\n", "Shelf 5 4 low\n", "SHELF 5 4 low\n", "rack 5 4 low\n", "5 4 low\n"):
            self.check_refused(NoNote, read, with_row(0, row))
        for row in ("boxes a 3 2 turns 0 0 0 turned\n", "Box a 3 2 turns 0 0 0 turned\n", "# a 3 2\n", "\n", "box\n"):
            self.check_refused(NoNote, read, with_row(2, row))

    def test_another_habit(self):
        for habit in ("high", "Low", "LEFT", "lo", "lowx", "left,", "0", "\u2113eft"):
            self.check_refused(NoNote, read, with_row(0, f"shelf 5 4 {habit}\n"))

    def test_another_word_for_turns_or_way(self):
        for word in ("turn", "Turns", "stay", "turned", "upright", "True", "1", "stays.", "turnsstays"):
            self.check_refused(NoNote, read, with_row(3, f"box b7 1 1 {word} 0 1 4 upright\n"))
        for word in ("turns", "Turned", "stays", "up", "UPRIGHT", "0", "False", "upright."):
            self.check_refused(NoNote, read, with_row(3, f"box b7 1 1 stays 0 1 4 {word}\n"))

    def test_numbers_that_are_none(self):
        wrong = (
            "-1", "+1", "01", "00", "0000000", "1.0", "1e3", "1_0", "0x1", "12345678", "10000000", "a", "1a", "a1",
            "\u0661", "\u00b2", "1\u0661", "\uff11", "1,0", "1\r", "\t1", "-0", "None", "True",
        )
        for word in wrong:
            self.check_refused(NoNote, read, with_row(0, f"shelf {word} 4 low\n"))
            self.check_refused(NoNote, read, with_row(0, f"shelf 5 {word} low\n"))
            for at in (2, 3, 5, 6, 7):
                words = "box b7 1 1 stays 0 1 4 upright".split()
                words[at] = word
                self.check_refused(NoNote, read, with_row(3, " ".join(words) + "\n"))

    def test_numbers_of_one_to_seven_figures(self):
        rack = read("shelf 1 12 low\nshelf 123 1234 low\nshelf 12345 123456 low\nshelf 1000000 9 low\n")
        self.assertEqual(rack.shelves, [(1, 12, "low"), (123, 1234, "low"), (12345, 123456, "low"), (MOST, 9, "low")])
        self.check_refused(NoShelf, read, "shelf 9999999 1 low\n")
        self.check_refused(NoShelf, read, "shelf 0 1 low\n")
        rack = read("shelf 1000000 1000000 low\nbox a 1 1 stays 0 999999 999990 upright\n")
        self.assertEqual(rack.where("a"), (0, 999999, 999990, False))

    def test_shelves_that_are_none(self):
        for row in ("shelf 0 4 low\n", "shelf 5 0 left\n", "shelf 1000001 4 low\n", "shelf 5 9999999 left\n"):
            self.check_refused(NoShelf, read, row)
            self.check_refused(NoShelf, read, with_row(0, row))
            self.check_refused(NoShelf, read, with_row(1, row))

    def test_more_than_nine_shelves(self):
        for many in (1, 9):
            self.assertEqual(len(read("shelf 2 2 low\n" * many).shelves), many)
        for many in (10, 11, 90):
            self.check_refused(NoShelf, read, "shelf 2 2 low\n" * many)

    def test_names_that_are_none(self):
        for name in ("A", "aB", "a-b", "a" * 13, "\u00e4", "a\tb", "a\rb", "a\u2028b", "\u00a0", "\r", "-", "a\x0bb"):
            self.check_refused(NoBox, read, with_row(3, f"box {name} 1 1 stays 0 1 4 upright\n"))

    def test_boxes_that_are_none(self):
        for sides in ("0 1", "1 0", "1000001 1", "1 9999999", "0 0"):
            self.check_refused(NoBox, read, with_row(3, f"box b7 {sides} stays 0 1 4 upright\n"))

    def test_a_name_twice(self):
        self.check_refused(Twice, read, TEXT + "box a 1 1 stays 0 3 4 upright\n")
        self.check_refused(Twice, read, TEXT + "box b7 1 1 stays 0 1 4 upright\n")

    def test_no_room(self):
        for row in (
            "box d 1 1 stays 0 0 0 upright\n", "box d 1 1 stays 2 0 0 upright\n",
            "box d 1 1 stays 9999999 0 0 upright\n",
            "box d 1 1 stays 0 4 0 upright\n", "box d 1 1 stays 0 0 5 upright\n", "box d 1 1 stays 0 3 4 turned\n",
            "box d 1 2 stays 0 3 0 upright\n", "box d 2 1 turns 0 3 0 turned\n", "box d 6 1 turns 0 3 0 upright\n",
        ):
            self.check_refused(NoRoom, read, TEXT + row)
        self.assertEqual(len(read(TEXT + "box d 1 1 stays 0 3 4 upright\n").names()), 4)

    def test_no_note_ahead_of_all_else(self):
        last = "box z 1 1 stays 0 0 0 sideways\n"
        for text in (
            "shelf 0 0 low\n", "shelf 2 2 low\n" * 10, "shelf 2 2 low\nbox A 0 0 stays 0 0 0 upright\n",
            TEXT + "box a 1 1 stays 0 3 4 upright\n", TEXT + "box d 9 9 stays 9 9 9 turned\n",
        ):
            self.check_refused(NoNote, read, text + last)
            self.check_refused(NoNote, read, text + "\n")
            self.check_refused(NoNote, read, text[:-1])
            self.check_refused(NoNote, read, text + "box \n")
        self.check_refused(NoNote, read, "box A 0 0 stays 9 9 9 turned\n")

    def test_no_shelf_ahead_of_the_boxes(self):
        for row in ("box A 0 0 stays 9 9 9 turned\n", "box a 9 9 stays 9 9 9 turned\n"):
            self.check_refused(NoShelf, read, "shelf 5 5 low\nshelf 5 0 low\n" + row)
            self.check_refused(NoShelf, read, "shelf 5 5 low\n" * 10 + row)

    def test_row_by_row_the_first_refusal(self):
        rows = {
            NoBox: "box A 1 1 stays 0 3 4 upright\n",
            Twice: "box a 1 1 stays 0 3 4 upright\n",
            NoRoom: "box d 1 1 stays 0 0 0 upright\n",
        }
        for first in rows:
            for second in rows:
                self.check_refused(first, read, TEXT + rows[first] + rows[second])

    def test_in_one_row_the_order_of_the_refusals(self):
        self.check_refused(NoBox, read, TEXT + "box a 0 1 stays 9 9 9 turned\n")
        self.check_refused(Twice, read, TEXT + "box a 1 1 stays 9 9 9 turned\n")

    def test_a_refused_reading_leaves_nothing_behind(self):
        self.check_refused(Twice, read, TEXT + "box a 1 1 stays 0 3 4 upright\n")
        self.assertEqual(written(read(TEXT)), TEXT)


class ThereAndBack(unittest.TestCase):
    def check(self, rack, draw):
        """Read again, whatever the order of its rows of boxes, it is the same rack and is written alike."""
        text = written(rack)
        self.assertTrue(NOTE.fullmatch(text), text)
        rows = text.splitlines(keepends=True)
        many = len(rack.shelves)
        for _ in range(3):
            again = read("".join(rows))
            self.assertEqual(state(again), state(rack))
            self.assertEqual(written(again), text)
            boxes = rows[many:]
            draw.shuffle(boxes)
            rows[many:] = boxes
        self.assertEqual(read(text).settle(), rack.settle())

    def test_drawn_racks(self):
        draw = seeded(16)
        for _ in range(300):
            shelves = [drawn_shelf(draw, 9) for _ in range(draw.randint(1, 9))]
            rack = Rack(shelves)
            for call in scattered(draw, shelves, 20, 4):
                rack.put_at(*call)
            if draw.random() < 0.5:
                rack.settle()
            self.check(rack, draw)

    def test_ninety_boxes_far_below_the_time_that_anybody_waits(self):
        draw = seeded(18)
        rack = Rack([(MOST, MOST, "low"), (MOST, MOST, "left")])
        for number in range(90):
            rack.put(f"b{number}", draw.randint(1, 150000), draw.randint(1, 150000), True)
        begun = time.process_time()
        self.check(rack, draw)
        self.assertLess(time.process_time() - begun, 5)


class AgainstAPlainReading(unittest.TestCase):
    SMALL = (
        "shelf 5 4 low\nshelf 3 6 left\nbox a 3 2 turns 0 0 0 turned\nbox b7 1 1 stays 0 1 4 upright\n"
        "box c 3 5 stays 1 1 0 upright\n"
    )
    PARTS = (
        "shelf", "box", "low", "left", "turns", "stays", "turned", "upright", "0", "1", "2", "3", "7", "00", "\n", " ",
        "a", "c", "d", "-", "A", "\r", "\t", "8888", "shelf 4 4 left\n", "box e 1 1 stays 1 0 2 upright\n", "",
    )

    def spoiled(self, draw):
        """The note with some words, blanks or signs changed."""
        parts = re.findall("[^ \n]+|[ \n]", self.SMALL)
        for _ in range(draw.randint(1, 3)):
            at = draw.randrange(len(parts))
            if draw.random() < 0.3:
                other = draw.randrange(len(parts))
                parts[at], parts[other] = parts[other], parts[at]
            elif draw.random() < 0.3:
                parts.insert(at, draw.choice(self.PARTS))
            else:
                parts[at] = draw.choice(self.PARTS)
        return "".join(parts)

    def test_spoiled_notes(self):
        draw = seeded(171)
        ends = set()
        for _ in range(6000):
            text = self.spoiled(draw)
            expected, found = told(plainly_read, text), told(read, text)
            self.assertEqual(found[0], expected[0], text)
            if found[0] == "gave":
                self.assertEqual(state(found[1]), state(expected[1]), text)
                ends.add(Rack)
            else:
                self.assertIs(found[1], expected[1], text)
                ends.add(found[1])
        self.assertEqual(ends, {Rack, NoNote, NoShelf, NoBox, Twice, NoRoom})


if __name__ == "__main__":
    unittest.main()
