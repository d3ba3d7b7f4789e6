"""Point [25]: what the desk refuses, with NoRow ahead of Unknown, and that ahead of what the stages refuse."""

import unittest
from unittest import mock

from windchest.desk import Desk
from windchest.errors import NoOrgan, NoPlay, NoRoll, NoRow, OrganError, Unknown

ORGAN = "board great 3; rank flute 4 2; stop open great; line flute 1 0 2; step open"
# By "some" stand an organ, a play and a roll; by "o" an organ alone, by "p" a play, by "r" and "s" rolls.
MADE = (
    "organ o " + ORGAN, "organ some " + ORGAN, "play p o", "at p 0 hold great 1", "at p 1 pull open", "play some o",
    "cut r p 5", "cut s p 7", "cut some p 6",
)
# Every row, with the kinds of its words: n is a new name; o, p and r are those of an organ, a play and a roll;
# # is a number. The last one of organ and of at are left out: all that follows is theirs.
ROWS = {
    "organ": "n", "play": "no", "at": "p#", "cut": "np#", "join": "nrr", "over": "nrr", "part": "nr##", "slow": "nr#",
    "fit": "nro", "sound": "r#", "open": "r#", "least": "r#", "lack": "r##", "same": "rr",
}
BEHIND = {"organ": " " + ORGAN, "at": " cancel"}
GOOD = {"n": "new", "o": "o", "p": "p", "r": "r", "#": "2"}
NOT_TEXTS = (
    None, True, False, 0, 1, 5, 1.0, b"same r r", ["same r r"], ["same", "r", "r"], ("same", "r", "r"), (), [], {},
    {"same r r": 1}, {"same r r"}, object(), mock.ANY, Desk, iter("same r r"),
)
NO_NAMES = ("", "R", "Rr", "r1", "1", "-", "r-", "r.", "abcdefghi", "r\t", "\tr", "r\n", "\nr", "_", "r_", "open!", "0")
NO_NUMBERS = (
    "", "x", "-0", "00", "01", "+1", "1.0", "1e3", "1_0", " ", "0x1", "1234567890123", "-", "--1", "1-", "one", "1\t",
    "1\n", "\n1",
)
BELOW = ("-1", "-2", "-10", "-999999999999")


def row_of(word, **changed):
    """This word's row, in which the words of these places (a0 is the first behind the word) are others."""
    parts = [changed.get(f"a{place}", GOOD[kind]) for place, kind in enumerate(ROWS[word])]
    return " ".join([word] + parts) + BEHIND.get(word, "")


def made_desk():
    desk = Desk()
    for row in MADE:
        desk.say(row)
    return desk


class Checked(unittest.TestCase):
    def setUp(self):
        self.desk = made_desk()

    def tearDown(self):
        """What is refused changes nothing: by each name stands what stood there, and by no other one does anything."""
        say = self.desk.say
        for name, length in (("r", 5), ("s", 7), ("some", 6)):
            self.assertEqual([say(f"open {name} {tick}") for tick in range(8)],
                             ["1"] + ["1 3"] * (length - 1) + ["-"] * (8 - length))
        for name, holes in (("p", ["1", "1 3"]), ("some", ["-", "-"])):
            self.assertEqual(say(f"cut after {name} 4"), "ok")
            self.assertEqual([say(f"open after {tick}") for tick in (0, 1)], holes)
        for name in ("o", "some"):
            self.assertEqual([say("play after " + name), say("at after 0 hold great 2"), say("at after 0 pull open"),
                              say("cut after after 1"), say("sound after 0")], ["ok"] * 4 + ["flute.3"])
        for row in ("play after new", "at new 0 cancel", "cut after new 5", "open new 0", "sound new 0"):
            with self.assertRaises(Unknown):
                say(row)

    def check(self, refusal, *rows):
        for row in rows:
            with self.subTest(row=row):
                with self.assertRaises(OrganError) as caught:
                    self.desk.say(row)
                self.assertIs(type(caught.exception), refusal)


class TestNoRow(Checked):
    def test_the_rows_are_good(self):
        """So that each of them below is refused for what is changed in it alone."""
        for word in ROWS:
            desk = made_desk()
            self.assertIs(type(desk.say(row_of(word))), str)

    def test_what_is_no_text(self):
        self.check(NoRow, *NOT_TEXTS)

    def test_no_words(self):
        self.check(NoRow, "", " ", "  ", "   ", "\n", "\t")

    def test_another_word(self):
        self.check(NoRow, "plays p o", "Play new o", "PLAY new o", "nothing", "nothing r", "r", "hold great 1",
                   "board great 3", "stop", "opens r 1", "ope r 1", "sam r r", "desk", "help", "0", "1 r 1", "name r r",
                   "roll r 1", "draught r", "changes r", "registrant o", "deed p 0 cancel", "same\tr r", "same\nr r")

    def test_a_word_alone(self):
        self.check(NoRow, *ROWS)
        self.check(NoRow, *[word + " " for word in ROWS])

    def test_too_few_words(self):
        for word in ROWS:
            words = row_of(word).split(" ")
            for count in range(1, 1 + len(ROWS[word])):
                self.check(NoRow, " ".join(words[:count]), " ".join(words[:count]) + " ")
        self.check(NoRow, "organ new", "at p 1", "at p 1 ")

    def test_too_many_words(self):
        for word in ROWS:
            if word not in BEHIND:
                self.check(NoRow, row_of(word) + " r", row_of(word) + " 1", row_of(word) + " r 1", row_of(word) + " -")

    def test_a_blank_ahead(self):
        self.check(NoRow, *[" " + row_of(word) for word in ROWS])

    def test_a_blank_behind(self):
        self.check(NoRow, *[row_of(word) + " " for word in ROWS if word != "organ"])
        self.check(NoRow, *[row_of(word) + "  " for word in ROWS if word != "organ"])

    def test_two_blanks(self):
        for word in ROWS:
            words = row_of(word).split(" ")
            last = len(ROWS[word]) if word == "organ" else len(words) - 1
            for place in range(last):
                self.check(NoRow, " ".join(words[:place + 1]) + "  " + " ".join(words[place + 1:]))
        self.check(NoRow, "at p 1 hold  great 1", "at p 1 hold great  1", "at p 1  hold great 1", "at p 1 shoe 1 ")

    def test_other_blanks(self):
        for word in ROWS:
            self.check(NoRow, row_of(word).replace(" ", "\t", 1), row_of(word).replace(" ", "\n", 1),
                       row_of(word).replace(" ", "_"), row_of(word).replace(" ", ","))
        self.check(NoRow, *[row_of(word) + "\n" for word in ROWS if word not in BEHIND])

    def test_names_that_are_none(self):
        for word, kinds in ROWS.items():
            for place, kind in enumerate(kinds):
                if kind != "#":
                    self.check(NoRow, *[row_of(word, **{f"a{place}": name}) for name in NO_NAMES])

    def test_numbers_that_are_none(self):
        for word, kinds in ROWS.items():
            for place, kind in enumerate(kinds):
                if kind == "#":
                    self.check(NoRow, *[row_of(word, **{f"a{place}": number}) for number in NO_NUMBERS])

    def test_numbers_below_nought(self):
        for word, kinds in ROWS.items():
            for place, kind in enumerate(kinds):
                if kind == "#":
                    self.check(NoRow, *[row_of(word, **{f"a{place}": number}) for number in BELOW])

    def test_ahead_of_unknown(self):
        for word, kinds in ROWS.items():
            for place, kind in enumerate(kinds):
                wrong = {f"a{other}": "nothing" for other, beside in enumerate(kinds) if beside in "opr"}
                wrong[f"a{place}"] = "-1" if kind == "#" else "Wrong"
                self.check(NoRow, row_of(word, **wrong))
            wrong = {f"a{place}": "nothing" for place, kind in enumerate(kinds) if kind in "opr"}
            if word not in BEHIND:
                self.check(NoRow, row_of(word, **wrong) + " more")
        self.check(NoRow, "at nothing 1", "at nothing 1 ", "at nothing 1 hold  great 1", "part new nothing 5 -1",
                   "lack nothing 1 -1", "cut new nothing x")

    def test_ahead_of_what_the_stages_refuse(self):
        self.check(NoRow, "organ New nothing", "organ 1 " + ORGAN, "at p -1 dance", "at p 0 dance ", "cut New p 0",
                   "part New r 5 4", "slow New r 0", "part new r 6 -1", "slow r s -5", "cut r p -1")


class TestUnknown(Checked):
    def test_each_name(self):
        for word, kinds in ROWS.items():
            for place, kind in enumerate(kinds):
                if kind in "opr":
                    self.check(Unknown, row_of(word, **{f"a{place}": "nothing"}))

    def test_by_its_kind_alone(self):
        """By o stands no play and no roll, by p no organ and no roll, by r no organ and no play."""
        for word, kinds in ROWS.items():
            for place, kind in enumerate(kinds):
                if kind in "opr":
                    for name in "opr".replace(kind, ""):
                        self.check(Unknown, row_of(word, **{f"a{place}": name}))

    def test_names_of_the_organs_own(self):
        self.check(Unknown, "play new great", "play new open", "open great 1", "sound flute 1")

    def test_several(self):
        self.check(Unknown, "same nothing none", "join new nothing none", "fit new nothing none", "over new r nothing",
                   "fit new r nothing", "same r nothing", "same nothing r")

    def test_ahead_of_what_the_stages_refuse(self):
        self.check(Unknown, "at nothing 0 dance", "at nothing 0 leave great 0", "cut new nothing 0",
                   "slow new nothing 0", "slow new nothing 1001", "part new nothing 5 4", "join r r nothing")

    def test_a_new_name_need_not_stand(self):
        desk = made_desk()
        for word, kinds in ROWS.items():
            if "n" in kinds:
                self.assertEqual(desk.say(row_of(word, a0="fresh")), "ok")

    def test_at_a_new_desk(self):
        self.desk, desk = Desk(), self.desk
        self.check(Unknown, *[row_of(word) for word in ROWS if word != "organ"])
        self.desk = desk


class TestWhatTheStagesRefuse(Checked):
    def check_at(self, row, refusal, name, value):
        with self.assertRaises(refusal) as caught:
            self.desk.say(row)
        self.assertEqual(getattr(caught.exception, name), value)

    def test_organs(self):
        for text, at in (("", 0), (" ", 0), (" board a 1", 0), ("board a 1 ", 0), ("board  a 1", 0), ("nothing", 0),
                         ("board a 1; ", 1), ("board a 1;board b 1", 0), ("board a 1; board a 1", 1),
                         ("board a 62", 0), ("board a x", 0), ("board A 1", 0), ("rank r 1 1", None),
                         ("board a 1; stop s a; line r 0 0 0", 2), ("; ".join(["board a 1"] * 151), None)):
            for name in ("new", "o", "some"):
                self.check_at(f"organ {name} {text}", NoOrgan, "at", at)

    def test_deeds(self):
        for deed in ("dance", "hold great", "hold great 1 1", "hold swell 0", "hold great 3", "leave great 0",
                     "pull great", "push x", "store 10", "store 0 open", "press 0", "cancel 1", "shoe 2", "shoe x",
                     "great 1 hold", "0", "-1", "hold great -1", "hold great 1.0", "hold great 01", "store 0 None",
                     "Cancel", "cancel\n", "hold great\t1", "cancel;", "hold; great 1"):
            self.check_at("at p 1 " + deed, NoPlay, "place", 2)
            self.check_at("at some 999999999999 " + deed, NoPlay, "place", 0)

    def test_a_tick_that_falls(self):
        self.check_at("at p 0 cancel", NoPlay, "place", 1)

    def test_lengths(self):
        self.check_at("cut r p 0", NoPlay, "place", 0)
        self.check_at("cut new p 1", NoPlay, "place", 1)

    def test_parts_and_times(self):
        self.check(NoRoll, "part r r 0 6", "part new r 6 6", "part new r 3 2", "slow r r 0", "slow new r 1001",
                   "part new s 999999999999 999999999999")


if __name__ == "__main__":
    unittest.main()
