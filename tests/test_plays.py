"""Point [18], plays: how they are cut into rolls, what is refused, and how rolls sound on an organ."""

import inspect
import unittest
from unittest import mock

from sample_organs import (
    MIXED, NO_WHOLE, PlayerModel, bits, chance_columns, chance_play, lively_organs, members, most_rows, roll_of_columns,
)
from windchest.errors import NoPlay, NoRoll, OrganError
from windchest.organ import Organ
from windchest.pipes import sounding_pipes
from windchest.player import Player
from windchest.plays import cut_play, sound_at
from windchest.rolls import is_roll, open_at

MOST_TICKS = 10 ** 12
# Of MIXED great's keys are the tracks 0 to 2, swell's 3 to 6, pedal's 7; the knobs open 8, hush 9, down 10, bare 11,
# round 12, horn 13, still 14. The shoe adds open, then horn, then bare.
ORGAN = Organ(MIXED)
GOOD = (0, ("hold", "great", 0))
NO_LENGTHS = NO_WHOLE + (-1, -2, MOST_TICKS + 1, 10 ** 30, "10", [10], (10, []))
# None of these is a tuple of a tick, from 0 to 9, and a thing.
NO_THINGS = (
    None, True, 0, 5, "", "ab", b"ab", [], [0, ("cancel",)], {}, {0: 0, 1: ("cancel",)}, {0, 1}, (), (0,),
    (("cancel",),), ("cancel",), ("hold", "great", 0), (0, "hold", "great", 0), (0, ("cancel",), None),
    (("cancel",), 0), object(), mock.ANY, iter((0, ("cancel",))), (-1, ("cancel",)), (-10 ** 30, ("cancel",)),
    (10, ("cancel",)), (11, ("cancel",)), (10 ** 30, ("cancel",)),
) + tuple((thing, ("cancel",)) for thing in NO_WHOLE)
# Behind the one deed of GOOD the player refuses each of these.
NO_DEEDS = (
    None, 0, "cancel", ["cancel"], (), ("play",), ("cancel", 0), ("hold", "great"), ("hold", "nothing", 0),
    ("hold", None, 0), ("hold", "great", 3), ("hold", "great", -1), ("hold", "great", True), ("leave", "great", 1),
    ("leave", "swell", 0), ("pull", "great"), ("push", []), ("store", 10), ("store", 0, "open"), ("press", 0),
    ("press", -1), ("shoe", 4), ("shoe", False), mock.ANY, (["hold"], "great", 0), {}, (0, ("cancel",)),
)


class TestArguments(unittest.TestCase):
    def test_names_of_arguments(self):
        self.assertEqual(list(inspect.signature(cut_play).parameters), ["organ", "play", "length"])
        self.assertEqual(list(inspect.signature(sound_at).parameters), ["organ", "roll", "tick"])


class TestCut(unittest.TestCase):
    def check(self, play, length, holes):
        told = cut_play(ORGAN, play, length)
        self.assertEqual(told, (length, holes))
        self.assertTrue(is_roll(told))

    def test_no_deeds(self):
        for length in (0, 1, 10, MOST_TICKS):
            self.check([], length, [])

    def test_kinds(self):
        told = cut_play(ORGAN, [(0, ("hold", "great", 0))], 1)
        self.assertEqual([type(told), type(told[1]), type(told[1][0])], [tuple, list, tuple])

    def test_keys(self):
        self.check([(0, ("hold", "great", 0)), (2, ("hold", "pedal", 0)), (3, ("leave", "great", 0)),
                    (5, ("hold", "swell", 3)), (6, ("leave", "pedal", 0)), (8, ("hold", "great", 0))], 10,
                   [(0, 0, 3), (7, 2, 6), (6, 5, 10), (0, 8, 10)])

    def test_each_key_and_each_knob_at_its_track(self):
        organ = Organ(most_rows())
        keys = [("hold", board, number) for board, count in organ.boards() for number in range(count)]
        for place in range(0, 305, 19):
            self.assertEqual(cut_play(organ, [(1, keys[place])], 3), (3, [(place, 1, 3)]))
        for number, (_, name) in enumerate(organ.knobs()):
            self.assertEqual(cut_play(organ, [(1, ("pull", name))], 3), (3, [(305 + number, 1, 3)]))

    def test_knobs(self):
        self.check([(0, ("pull", "open")), (1, ("pull", "still")), (2, ("pull", "open")), (3, ("push", "open")),
                    (4, ("push", "horn")), (5, ("pull", "open"))], 7, [(8, 0, 3), (14, 1, 7), (8, 5, 7)])

    def test_knobs_that_the_shoe_adds(self):
        self.check([(1, ("shoe", 1)), (2, ("shoe", 3)), (4, ("shoe", 2)), (6, ("shoe", 0))], 9,
                   [(8, 1, 6), (11, 2, 4), (13, 2, 6)])

    def test_a_knob_that_the_shoe_adds_and_a_hand_draws(self):
        self.check([(1, ("shoe", 1)), (2, ("pull", "open")), (3, ("shoe", 0)), (5, ("shoe", 1)), (6, ("push", "open")),
                    (7, ("shoe", 0))], 9, [(8, 1, 7)])

    def test_pistons_and_cancel(self):
        self.check([(0, ("pull", "open")), (0, ("pull", "hush")), (1, ("store", 0)), (1, ("store", 1, "swell")),
                    (2, ("cancel",)), (3, ("pull", "horn")), (3, ("shoe", 2)), (4, ("press", 0)), (5, ("shoe", 0)),
                    (6, ("pull", "bare")), (7, ("press", 1)), (8, ("cancel",)), (8, ("hold", "swell", 0))], 9,
                   [(8, 0, 2), (9, 0, 2), (8, 3, 8), (13, 3, 5), (9, 4, 8), (11, 6, 7), (3, 8, 9)])

    def test_coupled_keys_are_not_open(self):
        self.check([(0, ("pull", "down")), (0, ("hold", "swell", 1))], 2, [(4, 0, 2), (10, 0, 2)])

    def test_two_hands(self):
        self.check([(0, ("hold", "great", 1)), (1, ("hold", "great", 1)), (2, ("leave", "great", 1)),
                    (4, ("leave", "great", 1))], 6, [(1, 0, 4)])

    def test_several_deeds_at_one_tick(self):
        self.check([(2, ("hold", "great", 1)), (2, ("hold", "great", 0)), (2, ("pull", "open")),
                    (2, ("leave", "great", 1)), (5, ("pull", "horn")), (5, ("cancel",))], 7, [(0, 2, 7), (8, 2, 5)])

    def test_held_and_left_at_one_tick(self):
        self.check([(0, ("hold", "great", 1)), (0, ("leave", "great", 1))], 3, [])
        self.check([(2, ("pull", "open")), (2, ("push", "open")), (2, ("shoe", 3)), (2, ("shoe", 0))], 3, [])

    def test_left_and_held_at_one_tick(self):
        self.check([(0, ("hold", "great", 1)), (1, ("leave", "great", 1)), (1, ("hold", "great", 1))], 3, [(1, 0, 3)])
        self.check([(0, ("pull", "open")), (1, ("cancel",)), (1, ("shoe", 1))], 3, [(8, 0, 3)])

    def test_nothing_ahead_of_the_first_tick(self):
        self.check([(4, ("hold", "great", 1))], 6, [(1, 4, 6)])

    def test_the_last_tick_just_below_the_length(self):
        self.check([(0, ("hold", "great", 1))], 1, [(1, 0, 1)])
        self.check([(7, ("hold", "great", 1))], 8, [(1, 7, 8)])
        last = MOST_TICKS - 1
        self.check([(0, ("hold", "great", 1)), (last, ("hold", "great", 0))], MOST_TICKS,
                   [(1, 0, MOST_TICKS), (0, last, MOST_TICKS)])
        self.check([(0, ("hold", "great", 1)), (9, ("leave", "great", 1))], 10, [(1, 0, 9)])

    def test_the_most_things(self):
        self.check([(0, ("hold", "great", 0))] * 100 + [(number, ("leave", "great", 0)) for number in range(100)], 100,
                   [(0, 0, 99)])
        self.check([(0, ("shoe", 0))] * 200, 1, [])

    def test_for_many_plays(self):
        for rows, chance in lively_organs(80, 60):
            organ = Organ(rows)
            play, columns = chance_play(chance, rows, 60, 2)
            kept = list(play)
            roll = cut_play(organ, play, len(columns))
            self.assertEqual(play, kept)
            self.assertEqual(roll, roll_of_columns(columns))
            self.assertEqual(cut_play(organ, play, len(columns)), roll)
            self.assertEqual(organ.rows(), rows)

    def test_just_as_many_holes_and_one_more(self):
        """Each press opens ten knobs, and each cancel closes them."""
        rows = [("board", "a", 1)] + [("stop", "s" + letter, "a") for letter in "abcdefghij"]
        organ = Organ(rows)
        play = [(0, ("pull", row[1])) for row in rows[1:]] + [(0, ("store", 0))]
        for number in range(1, 40):
            play += [(2 * number - 1, ("cancel",)), (2 * number, ("press", 0))]
        roll = cut_play(organ, play, 100)
        self.assertEqual(len(roll[1]), 400)
        self.assertTrue(is_roll(roll))
        self.assertEqual(roll[1][-1], (10, 78, 100))
        more = play + [(79, ("hold", "a", 0))]
        with self.assertRaises(NoRoll):
            cut_play(organ, more, 100)
        with self.assertRaises(NoPlay) as caught:
            cut_play(organ, more + [(80, ("hold", "a", 1))], 100)
        self.assertEqual(caught.exception.place, 90)

    def test_what_is_handed_in_stays_and_what_is_told_is_new(self):
        play = [(0, ("hold", "great", 0)), (1, ("pull", "open"))]
        one, other = cut_play(ORGAN, play, 3), cut_play(ORGAN, play, 3)
        one[1].append("more")
        self.assertEqual(other, (3, [(0, 0, 3), (8, 1, 3)]))
        play.clear()
        self.assertEqual(other, (3, [(0, 0, 3), (8, 1, 3)]))
        self.assertEqual(ORGAN.rows(), MIXED)
        self.assertEqual(cut_play(ORGAN, play, 3), (3, []))


class TestRefused(unittest.TestCase):
    def check(self, place, play, length):
        with self.subTest(f"{length!r} {play!r}"[-100:]):
            kept = list(play) if isinstance(play, list) else None
            with self.assertRaises(OrganError) as caught:
                cut_play(ORGAN, play, length)
            self.assertIs(type(caught.exception), NoPlay)
            if place is None:
                self.assertIsNone(caught.exception.place)
            else:
                self.assertEqual((type(caught.exception.place), caught.exception.place), (int, place))
            if kept is not None:
                self.assertTrue(len(kept) == len(play) and all(one is two for one, two in zip(kept, play)))

    def test_what_is_no_list(self):
        for thing in (None, True, 0, 5, "", "ab", (), (GOOD,), {}, {0: GOOD}, {GOOD}, b"", object(), mock.ANY,
                      iter([GOOD]), range(0)):
            self.check(None, thing, 10)
            self.check(None, thing, -1)

    def test_too_many_things(self):
        self.check(None, [GOOD] * 201, 10)
        self.check(None, [None] * 201, 10)
        self.check(None, [GOOD] * 1000, 10)
        self.check(0, [None] * 200, 10)
        self.check(199, [GOOD] * 199 + [None], 10)

    def test_wrong_lengths(self):
        for length in NO_LENGTHS:
            self.check(None, [], length)
            self.check(None, [GOOD], length)
            self.check(None, [None], length)
            self.check(None, [(0, ("play",))], length)

    def test_things_that_are_none(self):
        for thing in NO_THINGS:
            self.check(0, [thing], 10)
            self.check(1, [GOOD, thing], 10)
            self.check(1, [GOOD, thing, GOOD, thing], 10)

    def test_deeds_that_the_player_refuses(self):
        for deed in NO_DEEDS:
            self.check(0, [(0, deed)], 10)
            self.check(1, [GOOD, (0, deed)], 10)
            self.check(1, [GOOD, (9, deed), GOOD], 10)

    def test_a_falling_tick(self):
        self.check(1, [(1, ("cancel",)), (0, ("cancel",))], 10)
        self.check(2, [(1, ("cancel",)), (5, ("cancel",)), (4, ("cancel",)), (3, ("cancel",))], 10)
        self.check(3, [(1, ("cancel",)), (5, ("cancel",)), (5, ("cancel",)), (0, ("cancel",))], 10)

    def test_a_tick_that_is_not_below_the_length(self):
        self.check(0, [(0, ("cancel",))], 0)
        self.check(0, [(1, ("cancel",))], 1)
        self.check(1, [(0, ("cancel",)), (10, ("cancel",))], 10)
        self.check(2, [(0, ("cancel",)), (9, ("cancel",)), (10, ("cancel",)), (11, ("cancel",))], 10)
        self.check(0, [(MOST_TICKS, ("cancel",))], MOST_TICKS)

    def test_whichever_comes_first(self):
        refused, none, falling, late = (5, ("leave", "great", 2)), None, (0, ("cancel",)), (10, ("cancel",))
        good = (5, ("hold", "swell", 0))
        for one in (refused, none, falling, late):
            for other in (refused, none, falling, late):
                self.check(1, [good, one, other], 10)
                self.check(2, [good, good, one, good, other], 10)

    def test_a_deed_is_refused_by_what_came_ahead(self):
        self.check(2, [(0, ("hold", "great", 0)), (1, ("leave", "great", 0)), (2, ("leave", "great", 0))], 10)
        self.check(0, [(0, ("press", 3)), (1, ("store", 3))], 10)
        self.check(3, [(0, ("store", 3)), (1, ("press", 3)), (2, ("cancel",)), (3, ("press", 4))], 10)

    def test_each_play_has_a_new_player(self):
        cut_play(ORGAN, [(0, ("hold", "great", 0)), (0, ("store", 3))], 10)
        self.check(0, [(0, ("leave", "great", 0))], 10)
        self.check(0, [(0, ("press", 3))], 10)


class TestSoundAt(unittest.TestCase):
    def test_by_hand(self):
        """Open leads key i of great to pipe i, horn key 0 of swell to pipe 5; hush mutes great."""
        roll = (9, [(0, 0, 9), (1, 1, 3), (8, 2, 8), (13, 2, 4), (3, 3, 9), (9, 5, 6)])
        for tick, wanted in enumerate(([], [], [0, 1], [0, 5], [0], [], [0], [0], [])):
            told = sound_at(ORGAN, roll, tick)
            self.assertEqual(members(told), wanted)
            self.assertIs(type(told), int)

    def test_below_nought_and_beyond(self):
        roll = (5, [(0, 0, 5), (8, 0, 5)])
        self.assertEqual([sound_at(ORGAN, roll, tick) for tick in (0, 4)], [1, 1])
        for tick in (-1, -5, -10 ** 30, 5, 6, MOST_TICKS, 10 ** 30):
            self.assertEqual(sound_at(ORGAN, roll, tick), 0)
        self.assertEqual(sound_at(ORGAN, (0, []), 0), 0)

    def test_tracks_beyond_the_knobs(self):
        """Still is the last knob, at 14: whatever lies beyond means nothing."""
        for track in (15, 16, 17, 100, 346, 1198, 1199):
            self.assertEqual(members(sound_at(ORGAN, (2, [(0, 0, 2), (8, 0, 2), (track, 0, 2)]), 1)), [0])
            self.assertEqual(sound_at(ORGAN, (2, [(8, 0, 2), (track, 0, 2)]), 1), 0)
        every = (1, [(track, 0, 1) for track in range(400)])
        self.assertEqual(sound_at(ORGAN, every, 0), sounding_pipes(ORGAN, bits(range(7)), bits(range(8))))

    def test_the_last_key_and_the_first_knob(self):
        """Track 1 is the last key where there are two, track 2 the only knob."""
        organ = Organ([("board", "a", 2), ("rank", "r", 2, 0), ("stop", "s", "a"), ("line", "r", 0, 0, 1)])
        for tracks, wanted in (([0, 2], [0]), ([1, 2], [1]), ([0, 1, 2], [0, 1]), ([0, 1], []), ([2], []),
                               ([1, 3], [])):
            self.assertEqual(members(sound_at(organ, (1, [(track, 0, 1) for track in tracks]), 0)), wanted)

    def test_an_organ_without_knobs(self):
        organ = Organ([("board", "a", 2), ("rank", "r", 2, 0)])
        self.assertEqual(sound_at(organ, (1, [(0, 0, 1), (2, 0, 1), (3, 0, 1)]), 0), 0)

    def test_the_greatest_organ(self):
        organ = Organ(most_rows())
        every = (1, [(track, 0, 1) for track in range(346)])
        self.assertEqual(sound_at(organ, every, 0), sounding_pipes(organ, bits(range(41)), bits(range(305))))

    def test_as_it_was_played(self):
        sounded = 0
        for rows, chance in lively_organs(81, 50):
            organ = Organ(rows)
            play, columns = chance_play(chance, rows, 50, 3)
            roll = cut_play(organ, play, len(columns))
            player, left = Player(organ), list(play)
            for tick in range(len(columns)):
                while left and left[0][0] == tick:
                    player.do(left.pop(0)[1])
                self.assertEqual(sound_at(organ, roll, tick), player.sound())
                sounded += player.sound() != 0
            self.assertEqual(left, [])
        self.assertGreater(sounded, 300)

    def test_a_roll_of_any_tracks_against_a_model(self):
        for rows, chance in lively_organs(82, 50):
            model = PlayerModel(rows).model
            keys, knobs = len(model.pairs), len(model.knobs)
            columns = chance_columns(chance, 5, keys + knobs + 3)
            roll = roll_of_columns(columns)
            for tick, column in enumerate(columns):
                held = {track for track in column if track < keys}
                drawn = {track - keys for track in column if keys <= track < keys + knobs}
                self.assertEqual(sound_at(Organ(rows), roll, tick), bits(model.sounding(drawn, held)))

    def test_what_is_handed_in_stays(self):
        roll = (5, [(0, 0, 5), (8, 0, 5)])
        sound_at(ORGAN, roll, 2)
        self.assertEqual(roll, (5, [(0, 0, 5), (8, 0, 5)]))
        self.assertEqual(open_at(roll, 2), [0, 8])
        self.assertEqual(ORGAN.rows(), MIXED)


if __name__ == "__main__":
    unittest.main()
