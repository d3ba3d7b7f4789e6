"""Point [19]: the barrel of a roll on an organ."""

import inspect
import unittest

from sample_organs import (
    MIXED, Model, chance_columns, chance_play, lively_organs, members, most_rows, roll_of_columns,
)
from windchest.barrels import barrel_of, first_unlike, fitted_to
from windchest.errors import NoRoll, OrganError
from windchest.organ import Organ
from windchest.plays import cut_play, sound_at
from windchest.rolls import is_roll, open_at

MOST_TICKS = 10 ** 12
MILLION = 10 ** 6
# Of MIXED great's keys are the tracks 0 to 2, swell's 3 to 6, pedal's 7; the knobs open 8, hush 9, down 10, bare 11,
# round 12, horn 13, still 14. Open leads key i of great to pipe i (flute), horn key 0 of swell to pipe 5 (reed) and
# key 3 of swell to pipe 0; down leads key i of swell to key i - 1 of great, round key 0 of great to key 2.
ORGAN = Organ(MIXED)
# Key 0 leads to the pipes 0 to 3, key 1 to pipe 4 alone, key 2 to the pipes 3 and 4. The knobs are tracks 3 and 4.
MANY = Organ([
    ("board", "a", 3), ("rank", "r", 5, 7), ("stop", "s", "a"), ("line", "r", 0, 0, 0), ("line", "r", 1, 0, 0),
    ("line", "r", 2, 0, 0), ("line", "r", 3, 0, 1), ("stop", "t", "a"), ("line", "r", 1, 2, 2), ("line", "r", 2, 2, 2),
])
BOTH = [(3, 0, 1000), (4, 0, 1000)]
TICKS = [(2 * number + 1, 2 * number + 2) for number in range(499)]


def sounds_by_model(rows, columns):
    """For each tick the set of pipes that sound, by a plain model, of tracks that may be beyond the knobs."""
    model = Model(rows)
    keys, knobs = len(model.pairs), len(model.knobs)
    sounds = []
    for column in columns:
        held = {track for track in column if track < keys}
        sounds.append(model.sounding({track - keys for track in column if keys <= track < keys + knobs}, held))
    return sounds


class TestArguments(unittest.TestCase):
    def test_names_of_arguments(self):
        self.assertEqual(list(inspect.signature(barrel_of).parameters), ["organ", "roll"])
        self.assertEqual(list(inspect.signature(fitted_to).parameters), ["organ", "other", "roll"])
        self.assertEqual(list(inspect.signature(first_unlike).parameters), ["one", "other"])


class TestByHand(unittest.TestCase):
    def check(self, length, holes, wanted, organ=ORGAN):
        kept = list(holes)
        self.assertTrue(is_roll((length, holes)))
        told = barrel_of(organ, (length, holes))
        self.assertEqual(told, (length, wanted))
        self.assertTrue(is_roll(told))
        self.assertEqual(holes, kept)

    def test_kinds(self):
        told = barrel_of(ORGAN, (5, [(0, 0, 5), (8, 0, 5)]))
        self.assertEqual([type(told), type(told[0]), type(told[1]), type(told[1][0])], [tuple, int, list, tuple])

    def test_no_ticks_and_no_holes(self):
        for length in (0, 1, 10, MOST_TICKS):
            self.check(length, [], [])

    def test_keys_without_a_stop_and_a_stop_without_keys(self):
        self.check(5, [(0, 0, 5), (3, 1, 2)], [])
        self.check(5, [(8, 0, 5), (13, 1, 2)], [])
        self.check(5, [(8, 0, 2), (0, 2, 5)], [])

    def test_keys_one_behind_the_other(self):
        self.check(9, [(8, 0, 9), (0, 1, 3), (1, 2, 5), (2, 7, 9)], [(0, 1, 3), (1, 2, 5), (2, 7, 9)])

    def test_a_key_again(self):
        self.check(9, [(8, 0, 9), (0, 1, 3), (0, 4, 6)], [(0, 1, 3), (0, 4, 6)])

    def test_to_the_end_and_not_to_the_end(self):
        self.check(4, [(0, 0, 4), (8, 0, 4)], [(0, 0, 4)])
        self.check(4, [(8, 0, 4), (0, 3, 4)], [(0, 3, 4)])
        self.check(4, [(0, 0, 3), (8, 0, 4)], [(0, 0, 3)])
        self.check(1, [(0, 0, 1), (8, 0, 1)], [(0, 0, 1)])

    def test_knobs_that_open_and_close_while_keys_are_held(self):
        self.check(10, [(0, 0, 10), (3, 0, 10), (8, 1, 3), (13, 2, 5), (8, 6, 7)], [(0, 1, 3), (5, 2, 5), (0, 6, 7)])

    def test_couplers_that_open_and_close_while_keys_are_held(self):
        """Down leads key 1 of swell to key 0 of great, and round this one to key 2."""
        self.check(10, [(4, 0, 10), (8, 0, 10), (10, 2, 8), (12, 4, 6)], [(0, 2, 8), (2, 4, 6)])

    def test_mutes_that_open_and_close_while_keys_are_held(self):
        self.check(10, [(0, 0, 10), (8, 0, 10), (9, 3, 5)], [(0, 0, 3), (0, 5, 10)])
        self.check(10, [(0, 0, 10), (8, 0, 10), (12, 2, 10), (9, 3, 5)], [(0, 0, 3), (2, 2, 10), (0, 5, 10)])

    def test_a_pipe_that_two_keys_bring(self):
        """Pipe 0 sounds by key 0 of great and by key 3 of swell: left by one of them it stays, and is one hole."""
        knobs = [(8, 0, 10), (13, 0, 10)]
        self.check(10, knobs + [(0, 1, 5), (6, 3, 8)], [(0, 1, 8)])
        self.check(10, knobs + [(6, 1, 5), (0, 3, 8)], [(0, 1, 8)])
        self.check(10, knobs + [(0, 1, 8), (6, 3, 5)], [(0, 1, 8)])
        self.check(10, knobs + [(0, 1, 5), (6, 5, 8)], [(0, 1, 8)])
        self.check(10, knobs + [(0, 1, 4), (6, 5, 8)], [(0, 1, 4), (0, 5, 8)])

    def test_a_pipe_that_two_stops_bring(self):
        rows = [("board", "a", 1), ("rank", "r", 1, 1), ("stop", "s", "a"), ("line", "r", 0, 0, 0), ("stop", "t", "a"),
                ("line", "r", 0, 0, 0)]
        self.check(9, [(0, 0, 9), (1, 1, 4), (2, 3, 6)], [(0, 1, 6)], Organ(rows))
        self.check(9, [(0, 0, 9), (1, 1, 4), (2, 4, 6)], [(0, 1, 6)], Organ(rows))

    def test_a_pipe_that_begins_where_another_ends(self):
        self.check(6, [(0, 0, 3), (8, 0, 6), (1, 3, 6)], [(0, 0, 3), (1, 3, 6)])

    def test_holes_that_begin_at_one_tick_are_sorted_by_pipes(self):
        """Of MANY key 0 alone brings four pipes; of ORGAN the track of a stop comes behind that of another one."""
        self.check(6, [(0, 1, 2), (3, 1, 2)], [(0, 1, 2), (1, 1, 2), (2, 1, 2), (3, 1, 2)], MANY)
        self.check(6, [(3, 0, 6), (8, 0, 6), (13, 0, 6), (2, 4, 5)], [(5, 0, 6), (2, 4, 5)])
        self.check(6, [(0, 0, 6), (3, 0, 6), (8, 2, 3), (13, 2, 3)], [(0, 2, 3), (5, 2, 3)])

    def test_tracks_beyond_the_knobs(self):
        for track in (15, 16, 100, 346, 1198, 1199):
            self.check(9, [(0, 0, 9), (track, 0, 9), (8, 2, 7)], [(0, 2, 7)])
            self.check(9, [(track, 0, 9)], [])
            self.check(9, [(0, 0, 9), (track, 3, 5)], [])

    def test_tracks_beyond_the_knobs_cut_no_hole_apart(self):
        self.check(9, [(0, 0, 9), (8, 0, 9), (15, 3, 4), (15, 6, 9)], [(0, 0, 9)])

    def test_keys_that_bring_nothing_cut_no_hole_apart(self):
        self.check(9, [(0, 0, 9), (8, 0, 9), (7, 3, 4), (14, 5, 8)], [(0, 0, 9)])

    def test_an_organ_without_ranks_or_knobs(self):
        self.check(5, [(0, 0, 5), (1, 0, 5), (2, 0, 5)], [], Organ([("board", "a", 2)]))
        self.check(5, [(0, 0, 5), (2, 0, 5)], [], Organ([("board", "a", 2), ("stop", "s", "a")]))

    def test_long_rolls(self):
        self.check(MOST_TICKS, [(0, 0, MOST_TICKS), (8, 0, MOST_TICKS)], [(0, 0, MOST_TICKS)])
        self.check(MOST_TICKS, [(8, 0, MOST_TICKS), (0, MILLION, 9 * MILLION), (1, 3 * MILLION, 4 * MILLION),
                                (2, MOST_TICKS - MILLION, MOST_TICKS)],
                   [(0, MILLION, 9 * MILLION), (1, 3 * MILLION, 4 * MILLION), (2, MOST_TICKS - MILLION, MOST_TICKS)])
        self.check(MOST_TICKS, [(0, 5 * MILLION, 8 * MILLION), (8, 6 * MILLION, MOST_TICKS)],
                   [(0, 6 * MILLION, 8 * MILLION)])

    def test_a_length_somewhat_beyond_is_not_refused(self):
        self.assertEqual(barrel_of(ORGAN, (MOST_TICKS + 1, [(0, 0, 5), (8, 0, 5)])), (MOST_TICKS + 1, [(0, 0, 5)]))

    def test_the_last_pipe_of_the_greatest_organ(self):
        rows = [row if row[0] != "line" else ("line", "ral", 36, 0, 60) for row in most_rows()]
        organ = Organ(rows)
        self.assertEqual(barrel_of(organ, (9, [(305, 0, 9), (60, 2, 6)])), (9, [(1163, 2, 6)]))


class TestHowManyHoles(unittest.TestCase):
    """Each hole of key 0 of MANY makes four holes of the barrel, each of key 1 one."""

    def barrel(self, holes, organ=MANY):
        kept = list(holes)
        self.assertTrue(is_roll((1000, holes)))
        try:
            return barrel_of(organ, (1000, holes))
        except OrganError as refusal:
            return type(refusal)
        finally:
            self.assertEqual(holes, kept)

    def test_just_as_many(self):
        told = self.barrel(BOTH + [(0, *tick) for tick in TICKS[:100]])
        self.assertEqual(told, (1000, [(pipe, *tick) for tick in TICKS[:100] for pipe in range(4)]))
        self.assertTrue(is_roll(told))

    def test_one_more(self):
        holes = BOTH + [(0, *tick) for tick in TICKS[:100]] + [(1, 500, 501)]
        self.assertIs(self.barrel(holes), NoRoll)

    def test_pipes_that_two_keys_bring_count_once(self):
        """The keys 0 and 2 together bring five pipes, pipe 3 by both of them."""
        holes = BOTH + [(key, *tick) for tick in TICKS[:80] for key in (0, 2)]
        self.assertEqual(self.barrel(holes), (1000, [(pipe, *tick) for tick in TICKS[:80] for pipe in range(5)]))
        self.assertIs(self.barrel(holes + [(1, 500, 501)]), NoRoll)

    def test_far_more(self):
        self.assertIs(self.barrel([(track, track, 1000) for track in range(346)], Organ(most_rows())), NoRoll)

    def test_a_roll_of_the_most_holes_with_a_short_barrel(self):
        self.assertEqual(self.barrel([(0, *tick) for tick in TICKS[:400]]), (1000, []))
        holes = [(1, 0, 1000), (3, 0, 1000)] + [(2, *tick) for tick in TICKS[:398]]
        self.assertEqual(self.barrel(holes), (1000, [(4, 0, 1000)]))


class TestTickByTick(unittest.TestCase):
    def check(self, organ, roll, sounds):
        """Against what sounds at each tick, and as the one roll that has just this open."""
        kept = (roll[0], list(roll[1]))
        wanted = roll_of_columns(sounds)
        if len(wanted[1]) > 400:
            with self.assertRaises(NoRoll):
                barrel_of(organ, roll)
            return False
        told = barrel_of(organ, roll)
        self.assertEqual(told, wanted)
        self.assertTrue(is_roll(told))
        self.assertEqual(roll, kept)
        for tick in range(-1, roll[0] + 2):
            self.assertEqual(open_at(told, tick), members(sound_at(organ, roll, tick)))
        return True

    def test_rolls_of_any_tracks(self):
        pipes = 0
        for rows, chance in lively_organs(90, 80):
            model = Model(rows)
            columns = chance_columns(chance, chance.randint(0, 14), len(model.pairs) + len(model.knobs) + 2)
            sounds = sounds_by_model(rows, columns)
            self.check(Organ(rows), roll_of_columns(columns), sounds)
            pipes += sum(len(sound) for sound in sounds)
        self.assertGreater(pipes, 400)

    def test_rolls_that_were_played(self):
        cut = 0
        for rows, chance in lively_organs(91, 60):
            organ = Organ(rows)
            play, columns = chance_play(chance, rows, 60, 2)
            cut += self.check(organ, cut_play(organ, play, len(columns)), sounds_by_model(rows, columns))
        self.assertGreater(cut, 50)

    def test_far_apart(self):
        """Each tick of a short roll stands for a million of them."""
        for rows, chance in lively_organs(92, 30):
            model = Model(rows)
            columns = chance_columns(chance, 8, len(model.pairs) + len(model.knobs))
            length, holes = roll_of_columns(columns)
            far = (length * MILLION, [(track, first * MILLION, behind * MILLION) for track, first, behind in holes])
            wanted = roll_of_columns(sounds_by_model(rows, columns))
            self.assertEqual(barrel_of(Organ(rows), far), (wanted[0] * MILLION, [
                (pipe, first * MILLION, behind * MILLION) for pipe, first, behind in wanted[1]]))


class TestOwn(unittest.TestCase):
    def test_each_list_is_new(self):
        roll = (5, [(0, 0, 5), (8, 0, 5)])
        one, other = barrel_of(ORGAN, roll), barrel_of(ORGAN, roll)
        one[1].append("more")
        self.assertEqual(other, (5, [(0, 0, 5)]))
        roll[1].clear()
        self.assertEqual(other, (5, [(0, 0, 5)]))
        self.assertEqual(ORGAN.rows(), MIXED)
        self.assertEqual(barrel_of(ORGAN, roll), (5, []))

    def test_an_empty_one_is_new_too(self):
        roll = (5, [])
        barrel_of(ORGAN, roll)[1].append("more")
        self.assertEqual(roll, (5, []))
        self.assertEqual(barrel_of(ORGAN, roll), (5, []))


if __name__ == "__main__":
    unittest.main()
