"""Point [25]: the desk and its rows, each with its answer."""

import inspect
import unittest

from sample_organs import EXAMPLE_TEXT
from windchest.barrels import barrel_of, first_unlike, fitted_to
from windchest.bellows import draught_of, first_lack, least_cap
from windchest.desk import Desk
from windchest.errors import NoPlay, NoRoll, OrganError, Unknown
from windchest.plays import cut_play
from windchest.rolls import end_to_end, laid_over, roll_part, slowed_by
from windchest.texts import read_organ

# Great's keys are the tracks 0 to 2, swell's 3 and 4; the knobs open 5, horn 6, down 7, hush 8. Open leads key i of
# great to flute i + 1, horn key i of swell to reed i; down leads key i of swell to key i of great.
SMALL = ("board great 3; board swell 2; rank flute 4 2; rank reed 2 5; stop open great; line flute 1 0 2; "
         "stop horn swell; line reed 0 0 1; coupler down swell great 0; mute hush great; step open; step horn")
# The same names, but of great there is one key alone, swell comes first, and there is no horn.
LESS = "board swell 2; board great 1; rank flute 4 3; coupler down swell great 0; stop open great; line flute 0 0 0"
# Pulls open, holds great 0 from tick 2 on and great 2 from tick 3 on, leaves the first at 5, pulls horn at 6.
PLAYED = ("0 pull open", "2 hold great 0", "3 hold great 2", "5 leave great 0", "6 pull horn")
ROLL = (9, [(5, 0, 9), (0, 2, 5), (2, 3, 9), (6, 6, 9)])


def desk_with(*rows):
    """A desk that answered all of these rows with ok."""
    desk = Desk()
    for row in rows:
        told = desk.say(row)
        if told != "ok":
            raise AssertionError(f"{row}: {told}")
    return desk


def small_desk(*more):
    """With an organ o, a play p for it, a roll r cut of it, and whatever these rows make."""
    return desk_with("organ o " + SMALL, "play p o", *["at p " + deed for deed in PLAYED], "cut r p 9", *more)


class Checked(unittest.TestCase):
    def check_roll(self, desk, name, roll):
        """That this roll stands by this name, as far as its ticks tell; a tick behind it has nothing open."""
        length, holes = roll
        for tick in range(length + 2):
            tracks = [track for track, first, behind in sorted(holes) if first <= tick < behind]
            self.assertEqual(desk.say(f"open {name} {tick}"), " ".join(map(str, tracks)) or "-")
        self.assertEqual(desk.say(f"part whole {name} 0 {length}"), "ok")
        with self.assertRaises(NoRoll):
            desk.say(f"part whole {name} 0 {length + 1}")

    def refusal(self, desk, row):
        with self.assertRaises(OrganError) as caught:
            desk.say(row)
        return caught.exception


class TestArguments(unittest.TestCase):
    def test_names_of_arguments(self):
        self.assertEqual(list(inspect.signature(Desk).parameters), [])
        self.assertEqual(list(inspect.signature(Desk.say).parameters), ["self", "row"])

    def test_answers_are_texts(self):
        desk = small_desk()
        for row in ("organ a " + SMALL, "play q o", "at q 0 cancel", "cut s q 3", "join s r r", "over s r r",
                    "part s r 0 1", "slow s r 2", "fit s r o", "sound r 3", "open r 3", "least r 0", "lack r 0 0",
                    "same r r"):
            self.assertIs(type(desk.say(row)), str)

    def test_two_desks_keep_apart(self):
        small_desk()
        with self.assertRaises(Unknown):
            Desk().say("open r 0")


class TestOrgan(Checked):
    def test_told(self):
        desk = desk_with("organ o " + EXAMPLE_TEXT, "play p o", "at p 0 hold great 60", "at p 0 pull open", "cut r p 1")
        self.assertEqual(desk.say("sound r 0"), "flute.72")

    def test_names_of_one_and_of_eight_letters(self):
        desk = desk_with("organ a board a 1", "organ abcdefgh board a 1", "play z abcdefgh", "play hgfedcba a",
                         "cut zzzzzzzz z 5", "slow aaaaaaaa zzzzzzzz 2")
        self.assertEqual(desk.say("open aaaaaaaa 0"), "-")

    def test_told_anew(self):
        desk = desk_with("organ o board a 1", "organ o board b 2", "play p o", "at p 0 hold b 1")
        self.assertIsInstance(self.refusal(desk, "at p 0 hold a 0"), NoPlay)

    def test_named_like_a_row(self):
        desk = desk_with("organ organ board organ 1", "play play organ", "at play 0 hold organ 0", "cut cut play 3",
                         "join at cut cut", "slow same at 1")
        self.assertEqual(desk.say("open same 5"), "0")
        self.assertEqual(desk.say("same same at"), "same")


class TestPlay(Checked):
    def test_begins_anew(self):
        desk = small_desk("play p o", "cut s p 9")
        self.check_roll(desk, "s", (9, []))

    def test_every_deed(self):
        deeds = ("0 hold swell 1", "1 pull open", "2 push open", "2 store 3", "2 store 4 great", "3 pull down",
                 "4 press 3", "5 shoe 2", "6 cancel", "7 leave swell 1", "7 shoe 1")
        desk = desk_with("organ o " + SMALL, "play p o", *["at p " + deed for deed in deeds], "cut r p 9")
        self.check_roll(desk, "r", (9, [(4, 0, 7), (5, 1, 2), (7, 3, 4), (5, 5, 6), (6, 5, 6), (5, 7, 9)]))

    def test_numbers_and_texts_among_a_deeds_parts(self):
        """A text where a number is wanted is none, and a number where a name is wanted neither."""
        desk = small_desk()
        for deed in ("hold 5 0", "hold great x", "hold great 01", "hold great -0", "pull 5", "store x", "shoe one",
                     "store 0 5", "hold great -1", "5", "5 great", "-1"):
            self.assertEqual(self.refusal(desk, "at p 8 " + deed).place, 5)
        self.assertEqual(desk.say("at p 8 shoe 2"), "ok")

    def test_refused_deeds_leave_the_play(self):
        desk = small_desk()
        for deed in ("8 leave great 0", "8 dance", "8 hold great", "8 hold great 1 1", "8 cancel now", "8 press 0",
                     "8 shoe 3", "8 pull great", "8 hold nothing 0", "8 store 10", "8 HOLD great 0", "8 hold great 3"):
            refusal = self.refusal(desk, "at p " + deed)
            self.assertIs(type(refusal), NoPlay)
            self.assertEqual(refusal.place, 5)
        desk.say("cut s p 9")
        self.check_roll(desk, "s", ROLL)

    def test_a_falling_tick_leaves_the_play(self):
        """For a length of the tick and one the deed at tick 6 is the first that is not below it."""
        desk = small_desk()
        self.assertEqual(self.refusal(desk, "at p 5 cancel").place, 4)
        self.assertEqual(self.refusal(desk, "at p 4 cancel").place, 3)
        self.assertEqual(self.refusal(desk, "at p 0 cancel").place, 1)
        desk.say("cut s p 9")
        self.check_roll(desk, "s", ROLL)
        self.assertEqual(desk.say("at p 6 cancel"), "ok")

    def test_the_last_tick_that_may_be_written(self):
        desk = desk_with("organ o " + SMALL, "play p o", "at p 999999999998 hold great 1", "cut r p 999999999999")
        self.assertEqual([desk.say(f"open r 99999999999{tick}") for tick in (7, 8, 9)], ["-", "1", "-"])
        self.assertEqual(desk.say("at p 999999999999 cancel"), "ok")
        refusal = self.refusal(desk, "cut s p 999999999999")
        self.assertEqual((type(refusal), refusal.place), (NoPlay, 1))

    def test_the_two_hundredth_deed_and_one_more(self):
        desk = desk_with("organ o " + SMALL, "play p o", *["at p 0 shoe 0"] * 198, "at p 1 hold great 0")
        self.assertEqual(desk.say("at p 2 hold great 1"), "ok")
        refusal = self.refusal(desk, "at p 3 hold great 2")
        self.assertIs(type(refusal), NoPlay)
        self.assertIsNone(refusal.place)
        self.assertIsNone(self.refusal(desk, "at p 0 dance").place)
        self.assertEqual(desk.say("cut r p 5"), "ok")
        self.check_roll(desk, "r", (5, [(0, 1, 5), (1, 2, 5)]))
        self.assertEqual([desk.say("play p o"), desk.say("at p 0 shoe 0")], ["ok", "ok"])

    def test_a_play_of_too_many_holes(self):
        """Each press opens twenty knobs, and each cancel closes them: 20 times 20 are as many holes as may be."""
        stops = [letter + "s" for letter in "abcdefghijklmnopqrst"]
        desk = desk_with("organ o board x 1; " + "; ".join(f"stop {name} x" for name in stops), "play p o",
                         *[f"at p 0 pull {name}" for name in stops], "at p 0 store 0")
        for number in range(1, 20):
            self.assertEqual(desk.say(f"at p {2 * number - 1} cancel"), "ok")
            self.assertEqual(desk.say(f"at p {2 * number} press 0"), "ok")
        self.assertEqual(desk.say("cut r p 50"), "ok")
        self.assertEqual(desk.say("at p 39 hold x 0"), "ok")
        for tick in range(40, 44):
            self.assertEqual(desk.say(f"at p {tick} cancel"), "ok")
        self.assertIs(type(self.refusal(desk, "cut r p 50")), NoRoll)
        self.assertIs(type(self.refusal(desk, "cut r p 43")), NoPlay)
        self.assertEqual([desk.say("open r 38"), desk.say("open r 43")], [" ".join(map(str, range(1, 21)))] * 2)

    def test_plays_of_two_organs(self):
        desk = small_desk("organ l " + LESS, "play q l", "at q 0 hold great 0", "at q 0 pull open", "cut s q 3")
        self.check_roll(desk, "s", (3, [(2, 0, 3), (4, 0, 3)]))
        self.assertIs(type(self.refusal(desk, "at q 0 hold great 1")), NoPlay)
        self.assertEqual(desk.say("at p 6 hold great 1"), "ok")


class TestRolls(Checked):
    def test_cut(self):
        desk = small_desk()
        self.check_roll(desk, "r", ROLL)
        self.assertEqual(desk.say("cut s p 7"), "ok")
        self.check_roll(desk, "s", (7, [(5, 0, 7), (0, 2, 5), (2, 3, 7), (6, 6, 7)]))

    def test_cut_without_deeds(self):
        desk = desk_with("organ o " + SMALL, "play p o", "cut r p 0", "cut s p 999999999999")
        self.check_roll(desk, "r", (0, []))
        self.assertEqual(desk.say("open s 999999999998"), "-")

    def test_cut_refused(self):
        desk = small_desk()
        for length, place in ((6, 4), (5, 3), (1, 1), (0, 0)):
            refusal = self.refusal(desk, f"cut r p {length}")
            self.assertEqual((type(refusal), refusal.place), (NoPlay, place))
        self.check_roll(desk, "r", ROLL)

    def test_join(self):
        desk = small_desk("play q o", "at q 1 hold great 2", "at q 1 pull open", "cut s q 3", "join t r s",
                          "join u s r")
        short = (3, [(2, 1, 3), (5, 1, 3)])
        self.check_roll(desk, "t", end_to_end(ROLL, short))
        self.check_roll(desk, "u", end_to_end(short, ROLL))

    def test_over(self):
        desk = small_desk("play q o", "at q 1 hold great 0", "at q 1 pull horn", "cut s q 12", "over t r s",
                          "over u s r")
        for name in ("t", "u"):
            self.check_roll(desk, name, laid_over(ROLL, (12, [(0, 1, 12), (6, 1, 12)])))

    def test_part(self):
        desk = small_desk("part s r 3 6", "part t r 0 9", "part u r 4 4", "part v r 9 9")
        self.check_roll(desk, "s", roll_part(ROLL, 3, 6))
        self.check_roll(desk, "t", ROLL)
        self.check_roll(desk, "u", (0, []))
        self.check_roll(desk, "v", (0, []))

    def test_part_refused(self):
        desk = small_desk("part s r 0 1")
        for ticks in ("0 10", "10 10", "5 4", "9 8"):
            self.assertIs(type(self.refusal(desk, "part s r " + ticks)), NoRoll)
        self.check_roll(desk, "s", (1, [(5, 0, 1)]))

    def test_slow(self):
        desk = small_desk("slow s r 1", "slow t r 3", "slow u r 1000")
        self.check_roll(desk, "s", ROLL)
        self.check_roll(desk, "t", slowed_by(ROLL, 3))
        self.assertEqual([desk.say(f"open u {tick}") for tick in (1999, 2000, 8999, 9000)], ["5", "0 5", "2 5 6", "-"])

    def test_slow_refused(self):
        desk = small_desk()
        for times in ("0", "1001", "999999999999"):
            self.assertIs(type(self.refusal(desk, "slow r r " + times)), NoRoll)
        self.check_roll(desk, "r", ROLL)

    def test_too_many_ticks(self):
        desk = desk_with("organ o board a 1", "play p o", "cut r p 999999999999", "cut s p 1", "cut t p 2",
                         "join u r s")
        self.assertIs(type(self.refusal(desk, "join u r t")), NoRoll)
        self.assertIs(type(self.refusal(desk, "slow u r 2")), NoRoll)
        self.assertEqual(desk.say("slow u r 1"), "ok")

    def test_too_many_holes(self):
        desk = desk_with("organ o board a 1", "play p o", *[f"at p {number} {'hold' if number % 2 else 'leave'} a 0"
                                                            for number in range(1, 200)], "cut r p 200")
        desk.say("part s r 0 199")
        for _ in range(2):
            self.assertEqual(desk.say("join s s s"), "ok")
        self.assertIs(type(self.refusal(desk, "join s s r")), NoRoll)
        self.assertIs(type(self.refusal(desk, "join s s s")), NoRoll)

    def test_in_its_own_place(self):
        desk = small_desk("join r r r", "slow r r 2", "part r r 1 30", "over r r r")
        self.check_roll(desk, "r", roll_part(slowed_by(end_to_end(ROLL, ROLL), 2), 1, 30))
        desk.say("fit r r o")
        self.check_roll(desk, "r", roll_part(slowed_by(end_to_end(ROLL, ROLL), 2), 1, 30))

    def test_of_two_organs_it_is_a_roll_of_the_first_ones(self):
        """Track 4 is a key in o and open in l, track 2 a key in both, track 5 is open in o and nothing in l."""
        desk = small_desk("organ l " + LESS, "play q l", "at q 0 hold great 0", "at q 0 pull open", "cut s q 3",
                          "join t r s", "join u s r", "over v s r", "over w r s", "slow x s 2", "part y s 0 2")
        self.assertEqual([desk.say(f"sound t {tick}") for tick in (3, 6, 9)], ["flute.1 flute.3", "flute.3", "-"])
        self.assertEqual([desk.say(f"sound u {tick}") for tick in (0, 5, 9)], ["flute.0", "-", "-"])
        self.assertEqual([desk.say(f"sound v {tick}") for tick in (0, 3)], ["flute.0", "-"])
        self.assertEqual([desk.say(f"sound w {tick}") for tick in (0, 3)], ["flute.3", "flute.1 flute.3"])
        self.assertEqual([desk.say(f"sound {name} 1") for name in "xy"], ["flute.0", "flute.0"])


class TestFit(Checked):
    def test_nothing_is_lost(self):
        desk = small_desk("organ m " + LESS.replace("great 1", "great 3") + "; stop horn swell", "fit s r m")
        self.check_roll(desk, "s", (9, [(6, 0, 9), (2, 2, 5), (4, 3, 9), (7, 6, 9)]))
        self.assertEqual(desk.say("sound s 2"), "flute.0")

    def test_something_is_lost(self):
        desk = small_desk("organ l " + LESS)
        self.assertEqual(desk.say("fit s r l"), "lost 2 6")
        self.check_roll(desk, "s", (9, [(4, 0, 9), (2, 2, 5)]))
        self.assertEqual([desk.say(f"sound s {tick}") for tick in (1, 2, 4, 5)], ["-", "flute.0", "flute.0", "-"])

    def test_one_track_is_lost(self):
        desk = small_desk("organ m board great 2; stop open great; stop horn great")
        self.assertEqual(desk.say("fit s r m"), "lost 2")

    def test_all_is_lost(self):
        desk = small_desk("organ m board x 61")
        self.assertEqual(desk.say("fit s r m"), "lost 0 2 5 6")
        self.check_roll(desk, "s", (9, []))

    def test_what_is_kept_is_a_roll_of_the_other_organ(self):
        desk = small_desk("organ l " + LESS)
        desk.say("fit s r l")
        self.assertEqual(desk.say("fit t s o"), "ok")
        self.check_roll(desk, "t", (9, [(5, 0, 9), (0, 2, 5)]))

    def test_the_same_organ(self):
        desk = small_desk("fit s r o")
        self.check_roll(desk, "s", ROLL)
        self.assertEqual(desk.say("same r s"), "same")


class TestTold(Checked):
    def test_sound(self):
        desk = small_desk("play q o", "at q 0 shoe 2", "at q 1 hold swell 1", "at q 2 pull down", "at q 3 pull hush",
                          "at q 4 hold great 0", "cut s q 6")
        self.assertEqual([desk.say(f"sound r {tick}") for tick in range(10)],
                         ["-", "-", "flute.1", "flute.1 flute.3", "flute.1 flute.3"] + ["flute.3"] * 4 + ["-"])
        self.assertEqual([desk.say(f"sound s {tick}") for tick in range(7)],
                         ["-", "reed.1", "flute.2 reed.1", "flute.2 reed.1", "flute.2 reed.1", "flute.2 reed.1", "-"])

    def test_pipes_by_their_numbers_not_by_their_names(self):
        desk = desk_with("organ o board a 1; rank z 12 1; rank b 1 1; stop s a; line b 0 0 0; line z 9 0 0; "
                         "line z 11 0 0; line z 2 0 0", "play p o", "at p 0 hold a 0", "at p 0 pull s", "cut r p 1")
        self.assertEqual(desk.say("sound r 0"), "z.2 z.9 z.11 b.0")

    def test_open(self):
        desk = small_desk()
        self.assertEqual([desk.say(f"open r {tick}") for tick in range(10)],
                         ["5", "5", "0 5", "0 2 5", "0 2 5", "2 5", "2 5 6", "2 5 6", "2 5 6", "-"])
        self.assertEqual(desk.say("open r 999999999999"), "-")

    def test_least(self):
        """Taken are 0, 0, 2, 4, 4, 2, 2, 2, 2."""
        desk = small_desk()
        self.assertEqual(desk.say("least r 0"), "18 2 9")
        self.assertEqual(desk.say("least r 1"), "11 2 9")
        self.assertEqual(desk.say("least r 3"), "2 3 5")
        self.assertEqual([desk.say("least r 4"), desk.say("least r 999999999999")], ["0 0 0", "0 0 0"])

    def test_least_of_nothing(self):
        desk = desk_with("organ o board a 1", "play p o", "cut r p 0", "cut s p 9")
        for name in "rs":
            self.assertEqual(desk.say(f"least {name} 0"), "0 0 0")
            self.assertEqual(desk.say(f"lack {name} 0 0"), "-")

    def test_lack(self):
        desk = small_desk()
        for pump, cap, wanted in ((0, 0, "2"), (0, 17, "8"), (0, 18, "-"), (1, 10, "8"), (1, 11, "-"), (2, 0, "3"),
                                  (2, 3, "4"), (2, 4, "-"), (3, 1, "4"), (3, 2, "-"), (4, 0, "-"),
                                  (999999999999, 999999999999, "-")):
            self.assertEqual(desk.say(f"lack r {pump} {cap}"), wanted)

    def test_lack_at_tick_nought(self):
        desk = small_desk("part s r 2 9")
        self.assertEqual(desk.say("lack s 1 0"), "0")

    def test_same(self):
        desk = small_desk("slow s r 1", "part t r 0 5", "part u r 1 9")
        self.assertEqual([desk.say("same r r"), desk.say("same r s"), desk.say("same s r")], ["same"] * 3)
        self.assertEqual([desk.say("same r t"), desk.say("same t r")], ["5", "5"])
        self.assertEqual([desk.say("same r u"), desk.say("same u r")], ["1", "1"])

    def test_same_at_tick_nought(self):
        desk = small_desk("part t r 2 9")
        self.assertEqual(desk.say("same r t"), "0")

    def test_same_hears_pipes_alone(self):
        """Behind tick 6 horn is drawn, but no key of swell is held; at ticks 0 and 1 no key is held at all."""
        desk = small_desk("play q o", "at q 1 pull hush", "at q 2 pull open", "at q 2 push hush", "at q 2 hold great 0",
                          "at q 3 hold great 2", "at q 5 leave great 0", "cut s q 9")
        self.assertEqual(desk.say("same r s"), "same")

    def test_same_of_rolls_of_two_organs(self):
        """Flute 0 of l is flute 1 of a second organ, and flute 1 of o."""
        desk = small_desk("organ l " + LESS, "organ m " + LESS.replace("line flute 0 0 0", "line flute 1 0 0"))
        self.assertEqual([desk.say("fit s r l"), desk.say("fit t r m")], ["lost 2 6", "lost 2 6"])
        self.assertEqual([desk.say("same r s"), desk.say("same s r")], ["2", "2"])
        self.assertEqual([desk.say("same r t"), desk.say("same t r")], ["3", "3"])
        self.assertEqual(desk.say("same s t"), "2")

    def test_barrels_of_too_many_holes(self):
        """One hundred holes of a key that leads to four pipes, and one more."""
        organ = "board a 2; rank r 5 1; stop s a; line r 0 0 0; line r 1 0 0; line r 2 0 0; line r 3 0 1"
        desk = desk_with("organ o " + organ, "play p o", *[f"at p {number} {'leave' if number % 2 else 'hold'} a 0"
                                                           for number in range(199)], "cut r p 199")
        desk.say("play q o")
        desk.say("at q 0 pull s")
        desk.say("cut q q 400")
        desk.say("over s r q")
        self.assertEqual(desk.say("least s 0"), "400 0 199")
        desk.say("play p o")
        desk.say("at p 300 hold a 1")
        desk.say("cut r p 400")
        desk.say("over t s r")
        for row in ("least t 0", "lack t 0 0", "same t s", "same s t", "same t t"):
            self.assertIs(type(self.refusal(desk, row)), NoRoll)
        self.assertEqual(desk.say("sound t 198"), "r.0 r.1 r.2 r.3")
        self.assertEqual(desk.say("sound t 300"), "r.4")


class TestWhatStandsStays(Checked):
    def test_an_organ_told_anew_under_a_play(self):
        desk = small_desk("organ o board other 1")
        self.assertEqual(desk.say("at p 6 hold swell 1"), "ok")
        desk.say("cut s p 9")
        self.assertEqual(desk.say("sound s 8"), "flute.3 reed.1")
        self.assertIs(type(self.refusal(desk, "at p 6 hold other 0")), NoPlay)

    def test_an_organ_told_anew_under_a_roll(self):
        desk = small_desk("organ o " + LESS)
        self.assertEqual(desk.say("sound r 3"), "flute.1 flute.3")
        self.assertEqual(desk.say("fit s r o"), "lost 2 6")
        self.assertEqual(desk.say("least r 0"), "18 2 9")

    def test_an_organ_told_anew_that_is_refused(self):
        desk = small_desk()
        self.refusal(desk, "organ o nothing")
        self.assertEqual(desk.say("play q o"), "ok")
        self.assertEqual(desk.say("at q 0 hold swell 1"), "ok")

    def test_an_organ_told_anew_under_a_fitted_roll(self):
        desk = small_desk("organ l " + LESS)
        desk.say("fit s r l")
        desk.say("organ l board x 1")
        self.assertEqual(desk.say("sound s 2"), "flute.0")

    def test_a_play_told_anew_or_longer_under_a_roll(self):
        desk = small_desk("at p 8 cancel", "play p o", "at p 0 hold great 1")
        self.check_roll(desk, "r", ROLL)

    def test_rolls_told_anew_under_a_roll(self):
        desk = small_desk("join s r r", "over t r r", "part u r 0 9", "slow v r 1", "fit w r o", "play p o",
                          "cut r p 1")
        self.check_roll(desk, "s", end_to_end(ROLL, ROLL))
        for name in "tuvw":
            self.check_roll(desk, name, ROLL)

    def test_one_name_for_an_organ_a_play_and_a_roll(self):
        desk = desk_with("organ a " + SMALL, "play a a", "at a 0 hold great 0", "at a 1 pull open", "cut a a 4")
        self.check_roll(desk, "a", (4, [(0, 0, 4), (5, 1, 4)]))
        self.assertEqual(desk.say("slow a a 2"), "ok")
        self.assertEqual(desk.say("at a 1 pull horn"), "ok")
        self.assertEqual(desk.say("fit a a a"), "ok")
        self.check_roll(desk, "a", (8, [(0, 0, 8), (5, 2, 8)]))
        self.assertEqual(desk.say("sound a 3"), "flute.1")

    def test_what_is_only_asked_changes_nothing(self):
        desk = small_desk()
        for row in ("sound r 3", "open r 3", "least r 1", "lack r 1 1", "same r r"):
            self.assertEqual(desk.say(row), desk.say(row))
        self.check_roll(desk, "r", ROLL)


class TestAsTheStagesTell(Checked):
    def test_least_and_lack_and_same(self):
        organ, less = read_organ(SMALL), read_organ(LESS)
        desk = small_desk("organ l " + LESS, "slow s r 7")
        desk.say("fit t s l")
        play = [(int(row.split(" ")[0]), tuple(int(part) if part.isdigit() else part for part in row.split(" ")[1:]))
                for row in PLAYED]
        roll = slowed_by(cut_play(organ, play, 9), 7)
        self.assertEqual(cut_play(organ, play, 9), ROLL)
        draught = draught_of(organ, barrel_of(organ, roll))
        for pump in range(6):
            self.assertEqual(desk.say(f"least s {pump}"), " ".join(map(str, least_cap(draught, pump))))
            for cap in range(0, 130, 9):
                lack = first_lack(draught, pump, cap)
                self.assertEqual(desk.say(f"lack s {pump} {cap}"), "-" if lack is None else str(lack))
        fitted, lost = fitted_to(organ, less, roll)
        self.assertEqual(lost, [2, 6])
        unlike = first_unlike(barrel_of(organ, roll), barrel_of(less, fitted))
        self.assertEqual(desk.say("same s t"), str(unlike))


if __name__ == "__main__":
    unittest.main()
