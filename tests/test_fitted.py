"""Point [20]: rolls of one organ fitted to another one, and the first tick at which two rolls are unlike."""

import unittest

from sample_organs import (
    MIXED, Model, bits, chance_columns, chance_organs, columns_of_holes, lively_organs, most_rows,
    roll_of_columns,
)
from windchest.barrels import first_unlike, fitted_to
from windchest.organ import Organ
from windchest.plays import sound_at
from windchest.rolls import is_roll

MOST_TICKS = 10 ** 12
# The keys of HERE are the tracks 0 to 2 (great), 3 to 6 (swell) and 7 (pedal); the knobs open 8, couple 9, hush 10.
HERE = Organ([
    ("board", "great", 3), ("board", "swell", 4), ("board", "pedal", 1), ("stop", "open", "great"),
    ("coupler", "couple", "swell", "great", 0), ("mute", "hush", "great"),
])


def other_rows(chance, rows):
    """The same names, some of them on other things; boards and knobs in another order, some of them left out."""
    rows = [row for row in rows if row[0] != "step"]
    boards = [row if chance.randrange(2) else ("board", row[1], chance.randint(1, 6)) for row in rows
              if row[0] == "board"]
    knobs = [[row] for row in rows if row[0] in ("stop", "coupler", "mute") and chance.randrange(5)]
    chance.shuffle(boards)
    chance.shuffle(knobs)
    names = [row[1] for row in boards] + [knob[0][1] for knob in knobs]
    changed = chance.sample(names, chance.choice((0, 0, 2, 3)) if len(names) > 2 else 0)
    turned = dict(zip(changed, changed[1:] + changed[:1]))
    return [tuple(turned.get(part, part) for part in row) for row in boards + [knob[0] for knob in knobs]]


def names_of_tracks(rows):
    """For each track what it stands for: a key of a board, by names, or a knob, by its kind and its name."""
    model = Model(rows)
    return [("key", *pair) for pair in model.pairs] + [(row[0], row[1]) for row in model.knobs]


def fitted_by_model(rows, there, columns):
    """For each tick the tracks there, and the tracks that are lost."""
    here, other = names_of_tracks(rows), names_of_tracks(there)
    tracks = {number: other.index(name) for number, name in enumerate(here) if name in other}
    fitted = [{tracks[track] for track in column if track in tracks} for column in columns]
    return fitted, sorted({track for column in columns for track in column if track not in tracks})


class TestByHand(unittest.TestCase):
    def check(self, rows, holes, wanted, lost, length=10):
        """Fits a roll of HERE to an organ of these rows."""
        kept = list(holes)
        self.assertTrue(is_roll((length, holes)))
        told = fitted_to(HERE, Organ(rows), (length, holes))
        self.assertEqual(told, ((length, wanted), lost))
        self.assertTrue(is_roll(told[0]))
        self.assertEqual(holes, kept)

    def test_kinds(self):
        told = fitted_to(HERE, HERE, (10, [(0, 1, 2), (50, 1, 2)]))
        self.assertEqual([type(told), type(told[0]), type(told[0][1]), type(told[0][1][0]), type(told[1])],
                         [tuple, tuple, list, tuple, list])

    def test_no_ticks_and_no_holes(self):
        for length in (0, 1, 10, MOST_TICKS):
            self.check([("board", "other", 1)], [], [], [], length)
            self.check(HERE.rows(), [], [], [], length)

    def test_the_same_organ(self):
        every = [(track, 0, 10) for track in range(11)]
        self.check(HERE.rows(), every, every, [])
        self.check(HERE.rows(), every + [(11, 0, 10), (1199, 0, 10)], every, [11, 1199])

    def test_boards_in_another_order(self):
        rows = [("board", "pedal", 1), ("board", "swell", 4), ("board", "great", 3)]
        self.check(rows, [(track, track, track + 1) for track in range(8)],
                   [(5, 0, 1), (6, 1, 2), (7, 2, 3), (1, 3, 4), (2, 4, 5), (3, 5, 6), (4, 6, 7), (0, 7, 8)], [])

    def test_holes_are_sorted_by_their_new_tracks(self):
        rows = [("board", "pedal", 1), ("board", "swell", 4), ("board", "great", 3)]
        self.check(rows, [(0, 2, 4), (3, 2, 5), (7, 2, 6)], [(0, 2, 6), (1, 2, 5), (5, 2, 4)], [])

    def test_a_board_among_others(self):
        rows = [("board", "first", 61), ("board", "swell", 4), ("board", "third", 61)]
        self.check(rows, [(3, 0, 1), (6, 0, 1)], [(61, 0, 1), (64, 0, 1)], [])

    def test_a_shorter_board(self):
        rows = [("board", "swell", 2), ("board", "great", 1)]
        self.check(rows, [(track, 1, 2) for track in range(7)], [(0, 1, 2), (1, 1, 2), (2, 1, 2)], [1, 2, 5, 6])

    def test_a_longer_board(self):
        rows = [("board", "great", 61), ("board", "swell", 5)]
        self.check(rows, [(track, 1, 2) for track in range(7)],
                   [(track, 1, 2) for track in (0, 1, 2, 61, 62, 63, 64)], [])

    def test_a_missing_board(self):
        rows = [("board", "swell", 4), ("board", "pedals", 1)]
        self.check(rows, [(2, 1, 2), (3, 1, 2), (7, 1, 2)], [(0, 1, 2)], [2, 7])

    def test_a_board_whose_name_is_a_knobs_there(self):
        for row in (("stop", "great", "a"), ("coupler", "great", "a", "a", 0), ("mute", "great", "a")):
            self.check([("board", "a", 61), row], [(0, 1, 2), (1, 3, 4)], [], [0, 1])

    def test_a_board_whose_name_is_a_ranks_there(self):
        self.check([("board", "a", 61), ("rank", "great", 61, 0)], [(0, 1, 2), (1, 3, 4)], [], [0, 1])

    def test_knobs_in_another_order(self):
        rows = [("board", "a", 5), ("mute", "hush", "a"), ("stop", "more", "a"), ("coupler", "couple", "a", "a", 3),
                ("stop", "open", "a")]
        self.check(rows, [(8, 0, 9), (9, 0, 8), (10, 0, 7)], [(5, 0, 7), (7, 0, 8), (8, 0, 9)], [])

    def test_knobs_of_another_kind(self):
        rows = [("board", "a", 5), ("stop", "hush", "a"), ("mute", "couple", "a"), ("coupler", "open", "a", "a", 3)]
        self.check(rows, [(8, 0, 9), (9, 0, 8), (10, 0, 7)], [], [8, 9, 10])
        rows = [("board", "a", 5), ("stop", "couple", "a"), ("mute", "open", "a"), ("coupler", "hush", "a", "a", 3)]
        self.check(rows, [(8, 0, 9), (9, 0, 8), (10, 0, 7)], [], [8, 9, 10])

    def test_knobs_whose_name_is_a_boards_or_a_ranks_there(self):
        rows = [("board", "open", 5), ("board", "couple", 5), ("rank", "hush", 5, 0)]
        self.check(rows, [(8, 0, 9), (9, 0, 8), (10, 0, 7)], [], [8, 9, 10])

    def test_missing_knobs(self):
        rows = [("board", "swell", 4), ("stop", "opens", "swell"), ("mute", "hush", "swell")]
        self.check(rows, [(8, 0, 9), (9, 0, 8), (10, 0, 7)], [(5, 0, 7)], [8, 9])
        self.check([("board", "a", 1)], [(8, 0, 9), (9, 0, 8), (10, 0, 7)], [], [8, 9, 10])

    def test_tracks_beyond_the_knobs(self):
        """None of them is a key or a knob here, whatever it would be there."""
        rows = most_rows()
        for track in (11, 12, 60, 305, 345, 346, 1199):
            self.check(rows, [(track, 0, 1)], [], [track])
            self.check(HERE.rows(), [(0, 0, 1), (track, 0, 1)], [(0, 0, 1)], [track])

    def test_lost_once_and_rising(self):
        holes = [(10, 0, 1), (11, 0, 1), (2, 2, 3), (10, 2, 3), (900, 2, 4), (1, 3, 4), (2, 5, 9), (900, 6, 7)]
        self.check([("board", "a", 1)], holes, [], [1, 2, 10, 11, 900])
        self.check([("board", "great", 2)], holes, [(1, 3, 4)], [2, 10, 11, 900])

    def test_only_what_is_open_is_lost(self):
        self.check([("board", "a", 1)], [(5, 0, 1)], [], [5])
        self.check([("board", "a", 1)], [(0, 9, 10)], [], [0])

    def test_several_holes_of_one_track(self):
        self.check([("board", "a", 2), ("board", "great", 3)], [(1, 0, 2), (1, 3, 4), (1, 6, 10)],
                   [(3, 0, 2), (3, 3, 4), (3, 6, 10)], [])

    def test_long_rolls_and_the_most_holes(self):
        far = [(0, 5 * 10 ** 6, 10 ** 9), (8, 10 ** 9, MOST_TICKS)]
        self.check(HERE.rows(), far, far, [], MOST_TICKS)
        holes = [(2, 2 * number, 2 * number + 1) for number in range(400)]
        self.check([("board", "great", 3)], holes, holes, [], 1000)
        self.check([("board", "great", 2)], holes, [], [2], 1000)

    def test_the_greatest_organs(self):
        rows = most_rows()
        turned = rows[:5][::-1] + rows[5:]
        every = (1, [(track, 0, 1) for track in range(346)])
        self.assertEqual(fitted_to(Organ(rows), Organ(turned), every), (every, []))
        self.assertEqual(fitted_to(Organ(rows), Organ(turned), (3, [(0, 0, 1), (304, 1, 2), (345, 2, 3)])),
                         ((3, [(244, 0, 1), (60, 1, 2), (345, 2, 3)]), []))


class TestAgainstModel(unittest.TestCase):
    def organs(self, seed, count):
        for rows, chance in chance_organs(seed, count, 6):
            yield rows, other_rows(chance, rows), chance

    def test_many(self):
        lost = kept = 0
        for rows, there, chance in self.organs(95, 150):
            columns = chance_columns(chance, chance.randint(0, 6), len(names_of_tracks(rows)) + 2)
            told = fitted_to(Organ(rows), Organ(there), roll_of_columns(columns))
            fitted, wanted = fitted_by_model(rows, there, columns)
            self.assertEqual(told, (roll_of_columns(fitted), wanted))
            lost += len(told[1])
            kept += len(told[0][1])
        self.assertGreater(lost, 500)
        self.assertGreater(kept, 500)

    def test_two_organs_drawn_apart(self):
        for rows, chance in chance_organs(96, 60, 6):
            there, _ = chance_organs(chance.random(), 1, 6)[0]
            columns = chance_columns(chance, 4, len(names_of_tracks(rows)))
            told = fitted_to(Organ(rows), Organ(there), roll_of_columns(columns))
            fitted, wanted = fitted_by_model(rows, there, columns)
            self.assertEqual(told, (roll_of_columns(fitted), wanted))

    def test_the_same_organ(self):
        for rows, chance in chance_organs(97, 60, 6):
            count = len(names_of_tracks(rows))
            columns = chance_columns(chance, 5, count + 2)
            beyond = sorted({track for column in columns for track in column if track >= count})
            told = fitted_to(Organ(rows), Organ(rows), roll_of_columns(columns))
            self.assertEqual(told, (roll_of_columns([column - {count, count + 1} for column in columns]), beyond))

    def test_there_and_back(self):
        """What was not lost comes back as it was."""
        for rows, there, chance in self.organs(98, 80):
            columns = chance_columns(chance, 5, len(names_of_tracks(rows)) + 1)
            fitted, lost = fitted_to(Organ(rows), Organ(there), roll_of_columns(columns))
            wanted = roll_of_columns([column - set(lost) for column in columns])
            self.assertEqual(fitted_to(Organ(there), Organ(rows), fitted), (wanted, []))

    def test_it_sounds_as_what_both_have(self):
        sounded = 0
        for rows, chance in lively_organs(99, 60):
            boards = [row for row in rows if row[0] == "board"]
            there = boards[::-1] + [row for row in rows if row[0] not in ("board", "step", "mute")]
            columns = chance_columns(chance, 5, len(names_of_tracks(rows)))
            fitted, _ = fitted_to(Organ(rows), Organ(there), roll_of_columns(columns))
            wanted, _ = fitted_by_model(rows, there, columns)
            model = Model(there)
            keys = len(model.pairs)
            for tick, column in enumerate(wanted):
                held = {track for track in column if track < keys}
                sound = model.sounding({track - keys for track in column if track >= keys}, held)
                self.assertEqual(sound_at(Organ(there), fitted, tick), bits(sound))
                sounded += len(sound)
        self.assertGreater(sounded, 200)


class TestOwn(unittest.TestCase):
    def test_each_list_is_new(self):
        roll = (5, [(0, 0, 5), (20, 0, 5)])
        one, other = fitted_to(HERE, HERE, roll), fitted_to(HERE, HERE, roll)
        one[0][1].append("more")
        one[1].append("more")
        roll[1].clear()
        self.assertEqual(other, ((5, [(0, 0, 5)]), [20]))
        self.assertEqual(fitted_to(HERE, HERE, roll), ((5, []), []))

    def test_the_roll_of_the_same_organ_is_new_too(self):
        roll = (5, [(0, 0, 5)])
        fitted_to(HERE, HERE, roll)[0][1].append("more")
        self.assertEqual(roll, (5, [(0, 0, 5)]))

    def test_the_organs_stay(self):
        organ, other = Organ(MIXED), Organ(most_rows())
        fitted_to(organ, other, (5, [(0, 0, 5), (9, 0, 5)]))
        self.assertEqual([organ.rows(), other.rows()], [MIXED, most_rows()])


class TestFirstUnlike(unittest.TestCase):
    def check(self, one, other, wanted):
        kept = (list(one[1]), list(other[1]))
        self.assertTrue(is_roll(one) and is_roll(other))
        for pair in ((one, other), (other, one)):
            told = first_unlike(*pair)
            self.assertEqual(told, wanted)
            self.assertIs(type(told), type(wanted))
        self.assertEqual((one[1], other[1]), kept)

    def test_like_rolls(self):
        for roll in ((0, []), (5, []), (5, [(0, 0, 5)]), (9, [(3, 1, 4), (2, 2, 9), (3, 5, 6)])):
            self.check(roll, (roll[0], list(roll[1])), None)
            self.check(roll, roll, None)

    def test_like_rolls_of_unlike_lengths(self):
        self.check((0, []), (5, []), None)
        self.check((5, []), (MOST_TICKS, []), None)
        self.check((5, [(0, 0, 5)]), (9, [(0, 0, 5)]), None)
        self.check((5, [(0, 1, 3), (1, 2, 5)]), (MOST_TICKS, [(0, 1, 3), (1, 2, 5)]), None)

    def test_an_unlike_first_tick(self):
        self.check((5, [(0, 0, 5)]), (5, []), 0)
        self.check((5, [(0, 0, 5)]), (0, []), 0)
        self.check((5, [(0, 0, 5)]), (5, [(1, 0, 5)]), 0)
        self.check((5, [(0, 0, 1)]), (5, [(0, 1, 2)]), 0)

    def test_holes_that_begin_alike_and_end_otherwise(self):
        self.check((9, [(0, 2, 5)]), (9, [(0, 2, 7)]), 5)
        self.check((9, [(0, 0, 9)]), (9, [(0, 0, 8)]), 8)
        self.check((9, [(0, 0, 9)]), (9, [(0, 0, 1), (0, 2, 9)]), 1)

    def test_holes_that_begin_otherwise_and_end_alike(self):
        self.check((9, [(0, 3, 5)]), (9, [(0, 2, 5)]), 2)
        self.check((9, [(0, 3, 5)]), (9, [(0, 4, 5)]), 3)

    def test_an_unlike_tick_behind_the_end_of_one(self):
        self.check((5, [(0, 0, 5)]), (9, [(0, 0, 6)]), 5)
        self.check((5, [(0, 0, 5)]), (9, [(0, 0, 5), (0, 7, 8)]), 7)
        self.check((5, []), (MOST_TICKS, [(3, MOST_TICKS - 1, MOST_TICKS)]), MOST_TICKS - 1)
        self.check((0, []), (9, [(0, 3, 9)]), 3)

    def test_one_track_in_the_place_of_another(self):
        self.check((9, [(0, 0, 3), (1, 3, 9)]), (9, [(0, 0, 3), (2, 3, 9)]), 3)
        self.check((9, [(0, 0, 3), (1, 3, 9)]), (9, [(0, 0, 9)]), 3)

    def test_the_first_of_several(self):
        self.check((9, [(0, 0, 3), (1, 4, 5), (2, 6, 7)]), (9, [(0, 0, 3), (1, 4, 6), (2, 7, 8)]), 5)

    def test_long_holes(self):
        one, other = (MOST_TICKS, [(0, 10 ** 6, 10 ** 9)]), (MOST_TICKS, [(0, 10 ** 6, 10 ** 9 + 1)])
        self.check(one, other, 10 ** 9)

    def test_the_most_holes(self):
        holes = [(number % 1200, 2 * number, 2 * number + 1) for number in range(400)]
        self.check((1000, holes), (1000, list(holes)), None)
        self.check((1000, holes), (1000, holes[:-1]), 798)
        self.check((1000, holes), (1000, holes[:-1] + [(399, 798, 800)]), 799)

    def test_against_columns(self):
        told = set()
        for _, chance in chance_organs(100, 300):
            one = chance_columns(chance, chance.randint(0, 8), 3)
            other = [column if chance.randrange(6) else chance_columns(chance, 1, 3)[0] for column in one]
            other = other[:chance.randint(0, 10)] + chance_columns(chance, chance.choice((0, 0, 2)), 3)
            most = max(len(one), len(other))
            pairs = zip(one + [set()] * (most - len(one)), other + [set()] * (most - len(other)))
            wanted = [tick for tick, (column, beside) in enumerate(pairs) if column != beside] + [None]
            self.check(roll_of_columns(one), roll_of_columns(other), wanted[0])
            told.add(wanted[0])
        self.assertTrue(told >= {None, 0, 1, 2, 3, 4, 5, 6, 7})

    def test_of_columns_that_are_alike(self):
        for _, chance in chance_organs(101, 30):
            columns = chance_columns(chance, 6, 4)
            length, holes = roll_of_columns(columns)
            self.assertEqual(columns_of_holes(length, holes), columns)
            self.check((length, holes), (length + chance.randint(0, 5), list(holes)), None)


if __name__ == "__main__":
    unittest.main()
