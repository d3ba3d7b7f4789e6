"""Points [11], speaking keys and sounding pipes, and [12], why a pipe sounds."""

import inspect
import unittest

from sample_organs import MIXED, Model, bits, chance_organs, chance_subset, members, most_rows
from windchest import pipes
from windchest.organ import Organ
from windchest.pipes import brought_by, sounding_pipes, speaking_keys, why_sounds

# Keys 0 to 4 are great's, 5 to 7 swell's, 8 to 11 pedal's; pipes 0 to 5 are flute's, 6 to 9 reed's, 10 is bell's.
BOARDS = [("board", "great", 5), ("board", "swell", 3), ("board", "pedal", 4)]
RANKS = [("rank", "flute", 6, 1), ("rank", "reed", 4, 2), ("rank", "bell", 1, 3)]


def organ_with(*rows):
    return Organ(BOARDS + RANKS + list(rows))


def stop_with(board, *lines):
    """An organ whose knob 0 is a stop of this board with these lines."""
    return organ_with(("stop", "open", board), *[("line",) + line for line in lines])


class TestArguments(unittest.TestCase):
    def test_names_of_arguments(self):
        for name, wanted in (("speaking_keys", ["organ", "knobs", "held"]), ("brought_by", ["organ", "knob", "key"]),
                             ("sounding_pipes", ["organ", "knobs", "held"]),
                             ("why_sounds", ["organ", "knobs", "held", "pipe"])):
            with self.subTest(name):
                self.assertEqual(list(inspect.signature(getattr(pipes, name)).parameters), wanted)


class TestBroughtBy(unittest.TestCase):
    def check(self, organ, wanted, knob=0):
        """The wanted pipes key by key; by each other key the stop brings nothing."""
        for key in range(12):
            with self.subTest(key=key):
                told = brought_by(organ, knob, key)
                self.assertIs(type(told), int)
                self.assertEqual(members(told), sorted(wanted.get(key, [])))

    def test_a_stop_without_lines(self):
        for board in ("great", "swell", "pedal"):
            self.check(stop_with(board), {})

    def test_one_line_for_all_keys_of_its_board(self):
        self.check(stop_with("great", ("flute", 0, 0, 4)), {0: [0], 1: [1], 2: [2], 3: [3], 4: [4]})
        self.check(stop_with("swell", ("flute", 0, 0, 2)), {5: [0], 6: [1], 7: [2]})
        self.check(stop_with("pedal", ("flute", 0, 0, 3)), {8: [0], 9: [1], 10: [2], 11: [3]})

    def test_lines_of_ranks_further_on(self):
        self.check(stop_with("great", ("reed", 0, 0, 3)), {0: [6], 1: [7], 2: [8], 3: [9]})
        self.check(stop_with("swell", ("reed", 1, 0, 2)), {5: [7], 6: [8], 7: [9]})
        self.check(stop_with("pedal", ("bell", -2, 0, 3)), {10: [10]})

    def test_below_low_at_low_at_high_and_above_high(self):
        self.check(stop_with("great", ("flute", 0, 1, 3)), {1: [1], 2: [2], 3: [3]})
        self.check(stop_with("great", ("flute", 0, 0, 0)), {0: [0]})
        self.check(stop_with("great", ("flute", 0, 4, 4)), {4: [4]})
        self.check(stop_with("great", ("flute", 1, 2, 2)), {2: [3]})
        self.check(stop_with("swell", ("flute", 0, 1, 1)), {6: [1]})
        self.check(stop_with("swell", ("flute", 2, 0, 1)), {5: [2], 6: [3]})
        self.check(stop_with("pedal", ("reed", -1, 2, 3)), {10: [7], 11: [8]})

    def test_shifts_to_the_first_pipe_and_just_beyond(self):
        self.check(stop_with("great", ("flute", -3, 3, 3)), {3: [0]})
        self.check(stop_with("great", ("flute", -4, 3, 3)), {})
        self.check(stop_with("great", ("flute", -4, 0, 4)), {4: [0]})
        self.check(stop_with("great", ("flute", -5, 0, 4)), {})
        self.check(stop_with("great", ("reed", -4, 0, 4)), {4: [6]})
        self.check(stop_with("great", ("reed", -5, 0, 4)), {})
        self.check(stop_with("pedal", ("reed", -1, 0, 0)), {})
        self.check(stop_with("pedal", ("reed", 0, 0, 0)), {8: [6]})

    def test_shifts_to_the_last_pipe_and_just_beyond(self):
        self.check(stop_with("great", ("flute", 5, 0, 4)), {0: [5]})
        self.check(stop_with("great", ("flute", 6, 0, 4)), {})
        self.check(stop_with("great", ("flute", 1, 4, 4)), {4: [5]})
        self.check(stop_with("great", ("flute", 2, 4, 4)), {})
        self.check(stop_with("great", ("flute", 2, 0, 4)), {0: [2], 1: [3], 2: [4], 3: [5]})
        self.check(stop_with("great", ("reed", 3, 0, 4)), {0: [9]})
        self.check(stop_with("great", ("reed", 4, 0, 4)), {})
        self.check(stop_with("great", ("bell", 0, 0, 4)), {0: [10]})
        self.check(stop_with("great", ("bell", 1, 0, 4)), {})
        self.check(stop_with("great", ("bell", -4, 0, 4)), {4: [10]})

    def test_the_farthest_shifts(self):
        self.check(stop_with("great", ("flute", 200, 0, 4), ("flute", -200, 0, 4)), {})
        organ = Organ([("board", "a", 61), ("board", "b", 61), ("rank", "r", 97, 0), ("rank", "t", 97, 0),
                       ("stop", "s", "b"), ("line", "r", 96, 0, 60), ("line", "t", -60, 0, 60),
                       ("line", "r", 97, 0, 60), ("line", "t", -61, 0, 60)])
        self.assertEqual([members(brought_by(organ, 0, key)) for key in range(122)],
                         [[]] * 61 + [[96]] + [[]] * 59 + [[97]])

    def test_four_lines(self):
        organ = stop_with("great", ("flute", 0, 0, 4), ("flute", 1, 0, 2), ("reed", -1, 1, 4), ("bell", -2, 2, 2))
        self.check(organ, {0: [0, 1], 1: [1, 2, 6], 2: [2, 3, 7, 10], 3: [3, 8], 4: [4, 9]})

    def test_two_lines_that_lead_to_the_same_pipe(self):
        self.check(stop_with("great", ("flute", 1, 0, 2), ("flute", 1, 2, 4)), {0: [1], 1: [2], 2: [3], 3: [4], 4: [5]})
        self.check(stop_with("great", ("flute", 1, 0, 0), ("flute", 0, 0, 1)), {0: [0, 1], 1: [1]})
        self.check(stop_with("great", ("flute", 1, 3, 3), ("flute", 1, 3, 3)), {3: [4]})

    def test_each_stop_by_its_own_number(self):
        organ = organ_with(("stop", "a", "great"), ("line", "flute", 0, 0, 0), ("mute", "hush", "great"),
                           ("stop", "b", "great"), ("stop", "c", "swell"), ("line", "reed", 0, 0, 0),
                           ("coupler", "d", "great", "swell", 0), ("stop", "e", "great"), ("line", "bell", 0, 0, 0))
        self.check(organ, {0: [0]}, 0)
        self.check(organ, {}, 2)
        self.check(organ, {5: [6]}, 3)
        self.check(organ, {0: [10]}, 5)

    def test_numbers_that_are_no_keys_bring_nothing(self):
        organ = stop_with("great", ("flute", 1, 0, 4), ("flute", 0, 0, 4))
        last = stop_with("pedal", ("flute", 1, 0, 3), ("flute", -3, 0, 3))
        for key in (-1, -5, -12, 12, 13, 1199, 1200, 1300, 10 ** 9, -10 ** 9):
            self.assertEqual(brought_by(organ, 0, key), 0)
            self.assertEqual(brought_by(last, 0, key), 0)

    def test_many_organs(self):
        for rows, _ in chance_organs(12, 200):
            organ, model = Organ(rows), Model(rows)
            for knob in model.drawn(range(len(model.knobs)), "stop"):
                for key in range(len(model.pairs)):
                    self.assertEqual(brought_by(organ, knob, key), bits(model.brought(knob, key)))


class TestSpeakingKeys(unittest.TestCase):
    def check(self, organ, knobs, held, wanted):
        with self.subTest(knobs=knobs, held=held):
            told = speaking_keys(organ, bits(knobs), bits(held))
            self.assertIs(type(told), int)
            self.assertEqual(members(told), sorted(wanted))

    def test_no_held_keys(self):
        organ = organ_with(("coupler", "a", "great", "swell", 0), ("mute", "b", "great"))
        for knobs in ([], [0], [1], [0, 1]):
            self.check(organ, knobs, [], [])

    def test_no_knobs_drawn(self):
        organ = organ_with(("coupler", "a", "great", "swell", 0), ("mute", "b", "great"))
        for held in ([0], [4, 5, 11], range(12)):
            self.check(organ, [], held, held)

    def test_an_organ_without_knobs(self):
        self.check(Organ(BOARDS), [], [0, 11], [0, 11])

    def test_a_held_key_on_a_muted_board_is_silent(self):
        organ = organ_with(("mute", "a", "great"), ("mute", "b", "pedal"))
        self.check(organ, [0], [0], [])
        self.check(organ, [0], [4], [])
        self.check(organ, [0], [0, 4, 5], [5])
        self.check(organ, [0], range(12), range(5, 12))
        self.check(organ, [1], [7, 8, 11], [7])
        self.check(organ, [1], range(12), range(8))
        self.check(organ, [0, 1], range(12), [5, 6, 7])

    def test_two_mutes_of_one_board(self):
        organ = organ_with(("mute", "a", "swell"), ("stop", "s", "great"), ("mute", "b", "swell"))
        self.check(organ, [], [4, 5, 7, 8], [4, 5, 7, 8])
        for knobs in ([0], [2], [0, 2], [0, 1, 2]):
            self.check(organ, knobs, [4, 5, 7, 8], [4, 8])
        self.check(organ, [1], [4, 5, 7, 8], [4, 5, 7, 8])

    def test_a_coupled_key_on_a_muted_board_speaks(self):
        organ = organ_with(("coupler", "a", "great", "swell", 0), ("mute", "b", "swell"))
        self.check(organ, [0, 1], [0], [0, 5])
        self.check(organ, [0, 1], [0, 5], [0, 5])
        self.check(organ, [0, 1], [0, 6], [0, 5])
        self.check(organ, [0, 1], [1, 6, 7], [1, 6])
        self.check(organ, [1], [0, 5], [0])

    def test_a_muted_board_still_leads_on(self):
        organ = organ_with(("coupler", "a", "great", "swell", 0), ("mute", "b", "great"))
        self.check(organ, [0, 1], [0], [5])
        self.check(organ, [0, 1], [0, 4], [5])

    def test_a_held_key_that_is_coupled_by_a_ring(self):
        organ = organ_with(("coupler", "a", "great", "swell", 0), ("coupler", "b", "swell", "great", 0),
                           ("mute", "c", "great"), ("mute", "d", "swell"), ("coupler", "e", "pedal", "pedal", 0),
                           ("mute", "f", "pedal"))
        for mutes in ([], [2], [3], [2, 3]):
            self.check(organ, [0, 1] + mutes, [0], [0, 5])
            self.check(organ, [0, 1] + mutes, [6], [1, 6])
        self.check(organ, [0, 1, 2], [0, 3], [0, 5])
        self.check(organ, [0, 2], [0], [5])
        self.check(organ, [4, 5], [8, 10], [8, 10])
        self.check(organ, [5], [8, 10], [])

    def test_chains(self):
        organ = organ_with(("coupler", "a", "pedal", "great", 0), ("coupler", "b", "great", "swell", 1),
                           ("coupler", "c", "swell", "swell", -1), ("mute", "d", "pedal"), ("mute", "e", "swell"))
        self.check(organ, [0], [8], [0, 8])
        self.check(organ, [0, 1], [8], [0, 6, 8])
        self.check(organ, [0, 1, 2], [8], [0, 5, 6, 8])
        self.check(organ, [0, 1, 2, 3], [8], [0, 5, 6])
        self.check(organ, [0, 1, 2, 3, 4], [8], [0, 5, 6])
        self.check(organ, [0, 1, 2, 3, 4], [8, 7], [0, 5, 6])
        self.check(organ, [0, 2, 3, 4], [8], [0])

    def test_couplers_and_mutes_that_are_not_drawn(self):
        organ = organ_with(("coupler", "a", "great", "swell", 0), ("coupler", "b", "great", "pedal", 0),
                           ("mute", "c", "great"), ("mute", "d", "swell"))
        self.check(organ, [0], [0], [0, 5])
        self.check(organ, [1], [0], [0, 8])
        self.check(organ, [2], [0, 5], [5])
        self.check(organ, [3], [0, 5], [0])

    def test_members_that_are_no_keys_and_no_knobs_mean_nothing(self):
        organ = organ_with(("coupler", "a", "great", "swell", 0), ("mute", "b", "pedal"))
        for beyond in (12, 13, 1199, 1200, 1300):
            self.check(organ, [0, 1], [0, 8, beyond], [0, 5])
            self.check(organ, [], [beyond], [])
        self.check(organ, [0, 2, 3, 40, 1199], [0, 8], [0, 5, 8])

    def test_many_organs(self):
        for rows, chance in chance_organs(13, 300):
            organ, model = Organ(rows), Model(rows)
            for _ in range(4):
                knobs = chance_subset(chance, len(model.knobs))
                held = chance_subset(chance, len(model.pairs))
                self.assertEqual(speaking_keys(organ, bits(knobs), bits(held)), bits(model.speaking(knobs, held)))


class TestSoundingPipes(unittest.TestCase):
    # Knobs: 0 a stop of great, 1 one of swell, 2 a coupler, 3 and 4 mutes of great and of swell.
    ROWS = (("stop", "open", "great"), ("line", "flute", 0, 0, 4), ("line", "flute", 1, 0, 4),
            ("stop", "horn", "swell"), ("line", "reed", 0, 0, 2), ("line", "flute", 0, 0, 0),
            ("coupler", "down", "great", "swell", 0), ("mute", "hush", "great"), ("mute", "still", "swell"))

    def check(self, organ, knobs, held, wanted):
        with self.subTest(knobs=knobs, held=held):
            told = sounding_pipes(organ, bits(knobs), bits(held))
            self.assertIs(type(told), int)
            self.assertEqual(members(told), sorted(wanted))

    def test_stops_that_are_drawn_and_stops_that_are_not(self):
        organ = organ_with(*self.ROWS)
        self.check(organ, [], [0, 5], [])
        self.check(organ, [0], [0, 5], [0, 1])
        self.check(organ, [1], [0, 6], [7])
        self.check(organ, [0, 1], [1, 7], [1, 2, 8])
        self.check(organ, [0, 1], [], [])
        self.check(organ, [0, 1], [8], [])
        self.check(organ, [0, 1], range(12), [0, 1, 2, 3, 4, 5, 6, 7, 8])

    def test_couplers(self):
        organ = organ_with(*self.ROWS)
        self.check(organ, [2], [0], [])
        self.check(organ, [0, 2], [1], [1, 2])
        self.check(organ, [1, 2], [1], [7])
        self.check(organ, [0, 1, 2], [1], [1, 2, 7])
        self.check(organ, [0, 1, 2], [0], [0, 1, 6])
        self.check(organ, [0, 1, 2], [4], [4, 5])

    def test_mutes(self):
        organ = organ_with(*self.ROWS)
        self.check(organ, [0, 1, 3], [0, 6], [7])
        self.check(organ, [0, 1, 4], [0, 6], [0, 1])
        self.check(organ, [0, 1, 3, 4], [0, 6], [])
        self.check(organ, [0, 1, 2, 3], [1], [7])
        self.check(organ, [0, 1, 2, 4], [1], [1, 2, 7])
        self.check(organ, [0, 1, 2, 3, 4], [1], [7])
        self.check(organ, [0, 1, 2, 3, 4], [1, 7], [7])

    def test_a_pipe_that_several_bring_sounds_by_each_of_them(self):
        organ = organ_with(*self.ROWS)
        self.check(organ, [0, 1], [0], [0, 1])
        self.check(organ, [0, 1], [5], [0, 6])
        self.check(organ, [0, 1], [0, 5], [0, 1, 6])
        self.check(organ, [0], [0, 1], [0, 1, 2])

    def test_organs_without_ranks_or_stops(self):
        for rows in (BOARDS, BOARDS + RANKS, BOARDS + [("stop", "s", "great")]):
            self.check(Organ(rows), [0], range(12), [])

    def test_members_that_are_no_keys_and_no_knobs_mean_nothing(self):
        organ = organ_with(*self.ROWS)
        for beyond in (12, 1199, 1200, 1300):
            self.check(organ, [1], [5, beyond], [0, 6])
        self.check(organ, [1, 5, 6, 40, 1199], [5], [0, 6])

    def test_many_organs(self):
        for rows, chance in chance_organs(14, 500):
            organ, model = Organ(rows), Model(rows)
            for _ in range(4):
                knobs = chance_subset(chance, len(model.knobs))
                held = chance_subset(chance, len(model.pairs))
                self.check(organ, knobs, held, model.sounding(knobs, held))

    def test_all_knobs_and_keys_of_small_organs(self):
        chosen = [rows for rows, _ in chance_organs(15, 120, 2) if sum(row[0] in ("stop", "line") for row in rows) > 3]
        self.assertGreaterEqual(len(chosen), 6)
        for rows in chosen[:6]:
            organ, model = Organ(rows), Model(rows)
            for knobs in range(min(2 ** len(model.knobs), 64)):
                for held in range(min(2 ** len(model.pairs), 32)):
                    told = sounding_pipes(organ, knobs, held)
                    self.assertEqual(told, bits(model.sounding(members(knobs), members(held))))

    def test_the_greatest_organ(self):
        organ, model = Organ(most_rows()), Model(most_rows())
        for knobs, held in (([], range(305)), (range(41), [0]), (range(41), []), (range(36), [304, 100]),
                            (range(0, 41, 2), range(0, 305, 31))):
            self.check(organ, knobs, held, model.sounding(knobs, held))
        self.assertEqual(sounding_pipes(organ, bits(range(24)), bits(range(305))),
                         bits(model.sounding(range(24), range(305))))


class TestWhySounds(unittest.TestCase):
    def check_told(self, model, knobs, held, pipe, told):
        self.assertIs(type(told), tuple)
        trail, knob, line = told
        self.assertIn(knob, model.drawn(knobs, "stop"))
        self.assertIn(line, range(len(model.lines[model.knobs[knob][1]])))
        key = trail[1][-1][1] if trail[1] else trail[0]
        self.assertIn(key, model.speaking(knobs, held))
        least = 1 if model.is_muted(knobs, key) else 0
        self.assertIsNone(model.fault_of_trail(knobs, held, key, least, trail), trail)
        self.assertEqual(model.brought_by_line(knob, line, key), pipe)

    def check_all(self, rows, knobs, held):
        organ, model = Organ(rows), Model(rows)
        knobs, held = set(knobs), set(held)
        sounding = model.sounding(knobs, held)
        for pipe in range(len(model.pipes)):
            with self.subTest(knobs=knobs, held=held, pipe=pipe):
                told = why_sounds(organ, bits(knobs), bits(held), pipe)
                if pipe in sounding:
                    self.check_told(model, knobs, held, pipe, told)
                else:
                    self.assertIsNone(told)

    def test_where_it_can_only_be_one(self):
        organ = organ_with(*TestSoundingPipes.ROWS)
        self.assertEqual(why_sounds(organ, bits([0]), bits([2]), 2), ((2, []), 0, 0))
        self.assertEqual(why_sounds(organ, bits([0]), bits([2]), 3), ((2, []), 0, 1))
        self.assertEqual(why_sounds(organ, bits([1]), bits([7]), 8), ((7, []), 1, 0))
        self.assertEqual(why_sounds(organ, bits([1]), bits([5]), 0), ((5, []), 1, 1))
        self.assertEqual(why_sounds(organ, bits([1, 2]), bits([1]), 7), ((1, [(2, 6)]), 1, 0))
        self.assertEqual(why_sounds(organ, bits([1, 2, 3, 4]), bits([1]), 7), ((1, [(2, 6)]), 1, 0))
        self.assertEqual(why_sounds(organ, bits([1, 2, 4]), bits([1, 6]), 7), ((1, [(2, 6)]), 1, 0))

    def test_where_it_does_not_sound(self):
        organ = organ_with(*TestSoundingPipes.ROWS)
        self.assertIsNone(why_sounds(organ, 0, bits([2]), 2))
        self.assertIsNone(why_sounds(organ, bits([1]), bits([2]), 2))
        self.assertIsNone(why_sounds(organ, bits([0]), 0, 2))
        self.assertIsNone(why_sounds(organ, bits([0]), bits([2]), 4))
        self.assertIsNone(why_sounds(organ, bits([0, 3]), bits([2]), 2))
        self.assertIsNone(why_sounds(organ, bits([0]), bits([2]), 10))

    def test_a_held_key_of_a_muted_board_is_told_by_its_ring(self):
        rows = BOARDS + RANKS + [("stop", "open", "great"), ("line", "flute", 0, 0, 4),
                                 ("coupler", "a", "great", "swell", 0), ("coupler", "b", "swell", "great", 0),
                                 ("mute", "hush", "great")]
        told = why_sounds(Organ(rows), bits(range(4)), bits([1]), 1)
        self.assertEqual(told, ((1, [(1, 6), (2, 1)]), 0, 0))
        self.check_all(rows, range(4), [1])
        self.check_all(rows, range(4), [1, 3, 6])

    def test_among_several_chains_stops_and_lines(self):
        rows = BOARDS + RANKS + [("stop", "a", "great"), ("line", "flute", 0, 0, 4), ("line", "flute", 0, 1, 3),
                                 ("stop", "b", "swell"), ("line", "reed", 0, 0, 2), ("line", "flute", 1, 0, 2),
                                 ("line", "flute", 2, 1, 1), ("stop", "c", "pedal"), ("line", "flute", 2, 0, 3),
                                 ("coupler", "d", "great", "swell", 0), ("coupler", "e", "swell", "pedal", 1),
                                 ("coupler", "f", "pedal", "great", 0), ("mute", "g", "great"), ("mute", "h", "pedal")]
        for stops in ([], [0], [1], [2], [0, 1], [1, 2], [0, 1, 2]):
            for couplers in ([], [3], [3, 4], [3, 4, 5], [5]):
                for mutes in ([], [6], [6, 7]):
                    for held in ([0], [1, 2], [5], [3, 6, 9], range(12)):
                        self.check_all(rows, stops + couplers + mutes, held)

    def test_the_mixed_sample(self):
        for knobs in ([], [0], [0, 1, 2], range(7), [0, 2, 3, 4, 5]):
            for held in ([], [0], [3, 6], [4, 0], range(8)):
                self.check_all(MIXED, knobs, held)

    def test_many_organs(self):
        for rows, chance in chance_organs(16, 300):
            model = Model(rows)
            for _ in range(3):
                self.check_all(rows, chance_subset(chance, len(model.knobs)), chance_subset(chance, len(model.pairs)))

    def test_the_greatest_organ(self):
        organ, model = Organ(most_rows()), Model(most_rows())
        knobs, held = set(range(38)), {0, 70, 150, 304}
        sounding = model.sounding(knobs, held)
        self.assertGreater(len(sounding), 100)
        for pipe in range(0, 1164, 9):
            told = why_sounds(organ, bits(knobs), bits(held), pipe)
            if pipe in sounding:
                self.check_told(model, knobs, held, pipe, told)
            else:
                self.assertIsNone(told)

    def test_numbers_that_are_no_pipes_do_not_sound(self):
        organ = organ_with(("stop", "s", "great"), ("line", "bell", 0, 0, 4), ("line", "flute", 0, 0, 4))
        for pipe in (-1, -11, 11, 12, 1199, 1200, 10 ** 9, -10 ** 9):
            self.assertIsNone(why_sounds(organ, 1, bits(range(12)), pipe))

    def test_members_that_are_no_keys_and_no_knobs_mean_nothing(self):
        organ = organ_with(*TestSoundingPipes.ROWS)
        for beyond in (12, 1199, 1200):
            self.assertIsNone(why_sounds(organ, bits([0]), bits([beyond]), 2))
            self.assertEqual(why_sounds(organ, bits([0, 5, 1199]), bits([2, beyond]), 2), ((2, []), 0, 0))

    def test_a_told_trail_is_the_askers_own(self):
        organ = organ_with(*TestSoundingPipes.ROWS)
        for pipe, asked in ((7, (organ, bits([1, 2]), bits([1]))), (2, (organ, bits([0]), bits([2])))):
            kept = why_sounds(*asked, pipe)
            told = why_sounds(*asked, pipe)
            told[0][1].append((9, 9))
            self.assertEqual(why_sounds(*asked, pipe), kept)
            told[0][1].clear()
            self.assertEqual(why_sounds(*asked, pipe), kept)
            self.assertIn(pipe, members(sounding_pipes(*asked)))

    def test_nothing_asked_later_changes_what_was_told(self):
        organ = organ_with(*TestSoundingPipes.ROWS)
        told = why_sounds(organ, bits([1, 2]), bits([1]), 7)
        for pipe in range(11):
            why_sounds(organ, bits(range(5)), bits(range(12)), pipe)
        self.assertEqual(told, ((1, [(2, 6)]), 1, 0))


class TestNothingIsChanged(unittest.TestCase):
    def test_the_organ_stays_as_it_was(self):
        organ = Organ(MIXED)
        for held in (0, 1, 24, 255):
            speaking_keys(organ, 127, held)
            sounding_pipes(organ, 127, held)
            for pipe in range(8):
                why_sounds(organ, 127, held, pipe)
        for key in range(8):
            brought_by(organ, 5, key)
        self.assertEqual(organ.rows(), MIXED)
        self.assertEqual(organ.stop(5), (1, [(1, 200, 0, 3), (0, -3, 3, 3), (1, 0, 0, 0), (1, 1, 2, 3)]))


if __name__ == "__main__":
    unittest.main()
