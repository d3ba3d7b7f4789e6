"""Point [8], an organ's text."""

import inspect
import unittest

from sample_organs import EXAMPLE, EXAMPLE_TEXT, MIXED, chance_organs, most_rows
from windchest import texts
from windchest.errors import NoOrgan
from windchest.organ import Organ
from windchest.texts import read_organ, show_organ

MIXED_TEXT = (
    "rank flute 5 4; board great 3; stop open great; line flute 0 0 2; line flute -200 1 1; mute hush great; "
    "board swell 4; coupler down swell great -1; rank reed 2 1000000000; step open; stop bare swell; "
    "coupler round great great 2; stop horn swell; line reed 200 0 3; line flute -3 3 3; line reed 0 0 0; "
    "line reed 1 2 3; step horn open; board pedal 1; mute still pedal; step bare horn; rank bass 1 0"
)
# A row of each kind behind rows that make it good.
AHEAD = "board great 5; rank flute 7 2; stop open great"
ROWS = (
    "board swell 5", "rank reed 5 12", "stop horn great", "line flute -12 0 4", "coupler over great great -1",
    "mute hush great", "step open",
)


def text_of(rows):
    return "; ".join(" ".join(str(part) for part in row) for row in rows)


def refused_at(text):
    try:
        read_organ(text)
    except NoOrgan as refusal:
        return refusal.at
    return "taken"


class TestArguments(unittest.TestCase):
    def test_names_of_arguments(self):
        for name, wanted in (("read_organ", ["text"]), ("show_organ", ["organ"])):
            self.assertEqual(list(inspect.signature(getattr(texts, name)).parameters), wanted)


class TestThereAndBack(unittest.TestCase):
    def check(self, rows, text):
        organ = read_organ(text)
        self.assertIs(type(organ), Organ)
        self.assertEqual(organ.rows(), rows)
        self.assertEqual([[type(part) for part in row] for row in organ.rows()],
                         [[type(part) for part in row] for row in rows])
        self.assertEqual(show_organ(organ), text)
        self.assertIs(type(show_organ(organ)), str)
        self.assertEqual(show_organ(Organ(rows)), text)

    def test_the_documents_own_example(self):
        self.check(EXAMPLE, EXAMPLE_TEXT)

    def test_every_kind_of_row_and_numbers_below_nought(self):
        self.check(MIXED, MIXED_TEXT)

    def test_one_row(self):
        self.check([("board", "a", 1)], "board a 1")
        self.check([("board", "abcdefgh", 61)], "board abcdefgh 61")

    def test_each_kind_of_row(self):
        for row in ROWS:
            with self.subTest(row):
                organ = read_organ(AHEAD + "; " + row)
                self.assertEqual(len(organ.rows()), 4)
                self.assertEqual(show_organ(organ), AHEAD + "; " + row)

    def test_least_and_greatest_numbers(self):
        self.check(
            [("board", "a", 61), ("rank", "b", 97, 10 ** 9), ("rank", "c", 1, 0), ("stop", "d", "a"),
             ("line", "b", -200, 0, 60), ("line", "c", 200, 60, 60), ("coupler", "e", "a", "a", -60),
             ("coupler", "f", "a", "a", 60), ("coupler", "g", "a", "a", 0)],
            "board a 61; rank b 97 1000000000; rank c 1 0; stop d a; line b -200 0 60; line c 200 60 60; "
            "coupler e a a -60; coupler f a a 60; coupler g a a 0",
        )

    def test_names_that_are_words_of_rows(self):
        self.check([("board", "line", 2), ("rank", "board", 2, 2), ("stop", "rank", "line"), ("line", "board", 1, 1, 1),
                    ("step", "rank")], "board line 2; rank board 2 2; stop rank line; line board 1 1 1; step rank")

    def test_150_rows(self):
        for count in (0, 30, 80):
            rows = most_rows(count)
            self.check(rows, text_of(rows))

    def test_organs_by_chance(self):
        for rows, _ in chance_organs(8, 60):
            self.check(rows, text_of(rows))

    def test_showing_changes_nothing(self):
        organ = Organ(MIXED)
        self.assertEqual([show_organ(organ), show_organ(organ)], [MIXED_TEXT, MIXED_TEXT])
        self.assertEqual(organ.rows(), MIXED)

    def test_two_that_are_read_do_not_disturb_each_other(self):
        one = read_organ(MIXED_TEXT)
        other = read_organ(EXAMPLE_TEXT)
        other.rows().clear()
        self.assertEqual(one.rows(), MIXED)
        self.assertEqual(other.rows(), EXAMPLE)
        self.assertEqual(read_organ(MIXED_TEXT).rows(), MIXED)


class TestNoText(unittest.TestCase):
    def test_things_that_are_no_text(self):
        for place, thing in enumerate((None, True, False, 0, 1, -1, [], [EXAMPLE_TEXT], list(EXAMPLE), (), {},
                                       (EXAMPLE_TEXT,), EXAMPLE_TEXT.encode(), b"", 1.0, object(), Organ(EXAMPLE))):
            with self.subTest(place):
                self.assertIsNone(refused_at(thing))

    def test_more_than_150_rows(self):
        rows = most_rows(96)
        self.assertEqual(refused_at(text_of(rows[:150])), "taken")
        self.assertIsNone(refused_at(text_of(rows[:151])))
        self.assertIsNone(refused_at(text_of(rows[:150]) + "; "))
        self.assertIsNone(refused_at("; " * 150))
        self.assertIsNone(refused_at("; " * 1000))
        self.assertIsNone(refused_at("; ".join(["board a 1"] * 151)))
        self.assertIsNone(refused_at("; ".join(["nothing"] * 151)))

    def test_150_rows_with_wrong_ones(self):
        rows = most_rows()
        self.assertEqual(refused_at("; " * 149), 0)
        self.assertEqual(refused_at(text_of(rows[:149]) + "; "), 149)
        self.assertEqual(refused_at(text_of(rows[:149]) + "; board more 5"), 149)

    def test_good_rows_none_of_which_is_a_board(self):
        self.assertIsNone(refused_at("rank flute 5 1"))
        self.assertIsNone(refused_at("rank flute 5 1; rank reed 5 1"))
        self.assertEqual(refused_at("rank flute 5 1; rank reed 5"), 1)


class TestWrongTexts(unittest.TestCase):
    def check_wrong(self, row):
        """The row is none, by itself and behind others, and whatever follows it."""
        for text, at in ((AHEAD + "; " + row, 3), (AHEAD + "; " + row + "; board choir 5", 3),
                         (AHEAD + "; " + row + "; ", 3), (row, 0), (row + "; board choir 5", 0)):
            with self.subTest(text):
                self.assertEqual(refused_at(text), at)

    def test_the_empty_text_and_rows_without_signs(self):
        self.check_wrong("")
        self.assertEqual(refused_at(""), 0)
        self.assertEqual(refused_at("; "), 0)
        self.assertEqual(refused_at("; board a 1"), 0)
        self.assertEqual(refused_at("board a 1; ; board b 1"), 1)

    def test_blanks_too_many(self):
        for text in (" ", "  ", "   "):
            self.check_wrong(text)
        for row in ROWS:
            for wrong in (" " + row, row + " ", "  " + row, row + "  ", row.replace(" ", "  ")):
                self.check_wrong(wrong)
            parts = row.split(" ")
            for place in range(1, len(parts)):
                self.check_wrong(" ".join(parts[:place]) + "  " + " ".join(parts[place:]))

    def test_blanks_at_the_text_ends_and_about_the_semicolon(self):
        self.assertEqual(refused_at(" " + EXAMPLE_TEXT), 0)
        self.assertEqual(refused_at(EXAMPLE_TEXT + " "), 3)
        self.assertEqual(refused_at(EXAMPLE_TEXT.replace("; ", ";  ")), 1)
        self.assertEqual(refused_at(EXAMPLE_TEXT.replace("; ", " ; ")), 0)
        self.assertEqual(refused_at(EXAMPLE_TEXT.replace("; ", " ;")), 0)

    def test_line_ends_and_other_signs_in_the_place_of_a_blank(self):
        for sign in ("\n", "\t", "\r", "\r\n", "\x0b", "\x0c", "\x1c", ",", "_"):
            self.assertEqual(refused_at(EXAMPLE_TEXT + sign), 3)
            self.assertEqual(refused_at(sign + EXAMPLE_TEXT), 0)
            self.assertEqual(refused_at(EXAMPLE_TEXT.replace(" ", sign)), 0)
            self.assertEqual(refused_at(EXAMPLE_TEXT.replace("; ", ";" + sign)), 0)
            self.assertEqual(refused_at(EXAMPLE_TEXT.replace("; ", sign + "; ")), 0)
            self.assertEqual(refused_at(EXAMPLE_TEXT.replace("; ", "; " + sign)), 1)
            self.assertEqual(refused_at(EXAMPLE_TEXT.replace("; ", sign)), 0)
            for row in ROWS:
                self.check_wrong(row.replace(" ", sign))
                self.check_wrong(row + sign)
                self.check_wrong(sign + row)

    def test_semicolons(self):
        self.assertEqual(refused_at(EXAMPLE_TEXT + ";"), 3)
        self.assertEqual(refused_at(EXAMPLE_TEXT + "; "), 4)
        self.assertEqual(refused_at(";" + EXAMPLE_TEXT), 0)
        self.assertEqual(refused_at("; " + EXAMPLE_TEXT), 0)
        self.assertEqual(refused_at(EXAMPLE_TEXT.replace("; ", ";")), 0)
        self.assertEqual(refused_at(EXAMPLE_TEXT.replace("; ", ";; ")), 0)
        self.assertEqual(refused_at(EXAMPLE_TEXT.replace("; ", "; ; ")), 1)
        self.assertEqual(refused_at("board great 61; rank flute 73 4;stop open great"), 1)
        self.assertEqual(refused_at("board great 61; rank flute 73 4; stop open great;line flute 12 0 60"), 2)
        for row in ROWS:
            self.check_wrong(row + ";")
            self.check_wrong(";" + row)
            self.check_wrong(row.replace(" ", ";"))

    def test_great_letters(self):
        self.assertEqual(refused_at(EXAMPLE_TEXT.upper()), 0)
        self.assertEqual(refused_at(EXAMPLE_TEXT.replace("rank", "Rank")), 1)
        self.assertEqual(refused_at(EXAMPLE_TEXT.replace("open", "Open")), 2)
        self.assertEqual(refused_at(EXAMPLE_TEXT.replace("line flute", "line Flute")), 3)
        for row in ROWS:
            self.check_wrong(row.upper())
            self.check_wrong(row.capitalize())

    def test_numbers_written_otherwise(self):
        for shape in ("board swell {}", "rank reed {} 5", "rank reed 5 {}", "line flute {} 0 4", "line flute 0 {} 4",
                      "line flute 0 0 {}", "coupler over great great {}"):
            self.assertEqual(refused_at(AHEAD + "; " + shape.replace("{}", "1")), "taken")
            for number in ("01", "001", "+1", "-0", "+0", "00", "--1", "1-", "1.0", "1.", "1_0", "0x1", "1e0", "one",
                           "True", "None", "a", "great", "-", "+", "", "1,", "1000000000000", "0000000000001",
                           "-1000000000000", "999999999999", "-999999999999"):
                self.check_wrong(shape.replace("{}", number))

    def test_numbers_just_beyond_their_bounds(self):
        for row in ("board swell 0", "board swell 62", "board swell -1", "rank reed 0 5", "rank reed 98 5",
                    "rank reed 5 -1", "rank reed 5 1000000001", "line flute -201 0 4", "line flute 201 0 4",
                    "line flute 0 -1 4", "line flute 0 0 5", "line flute 0 3 2", "coupler over great great 61",
                    "coupler over great great -61"):
            self.check_wrong(row)

    def test_numbers_where_a_name_is_wanted(self):
        for row in ("board 5 5", "rank 5 5 5", "stop 5 great", "stop horn 0", "line 0 0 0 0", "line 1 12 0 4",
                    "coupler 5 great great 0", "coupler over 0 great 0", "coupler over great 0 0", "mute 5 great",
                    "mute hush 0", "step 0", "step open 0", "0", "5 5", "-1"):
            self.check_wrong(row)

    def test_a_part_more_and_less(self):
        for row in ROWS:
            for more in ("5", "great", "open", "flute", "-1"):
                self.check_wrong(row + " " + more)
            parts = row.split(" ")
            for place in range(len(parts)):
                self.check_wrong(" ".join(parts[:place] + parts[place + 1:]))
            self.check_wrong(parts[0])

    def test_no_such_word(self):
        for row in ("piston a 5", "boards swell 5", "great", "swell 5", "board,swell,5", "None", "()", "new swell 5"):
            self.check_wrong(row)

    def test_wrong_as_rows_are(self):
        self.check_wrong("stop horn nothing")
        self.assertEqual(refused_at("board great 5; board great 5"), 1)
        self.assertEqual(refused_at("board great 5; stop open great; line flute 0 0 0; rank flute 5 5"), 2)
        self.assertEqual(refused_at("stop open great; board great 5"), 0)
        self.assertEqual(refused_at(AHEAD + "; " + "; ".join(["line flute 0 0 4"] * 5)), 7)
        self.assertEqual(refused_at(AHEAD + "; step open open; step"), 3)


if __name__ == "__main__":
    unittest.main()
