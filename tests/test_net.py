"""Points [9], down and coupled keys, and [10], trails."""

import inspect
import unittest

from sample_organs import MIXED, Model, bits, chance_organs, chance_subset, members, most_rows
from windchest import net
from windchest.net import coupled_keys, down_keys, led_to, trail_to
from windchest.organ import Organ

# Keys 0 to 4 are great's, 5 to 7 swell's, 8 to 11 pedal's.
BOARDS = [("board", "great", 5), ("board", "swell", 3), ("board", "pedal", 4)]
GREAT, SWELL, PEDAL = range(0, 5), range(5, 8), range(8, 12)


def organ_of(*couplers):
    """Knob 0 is the first coupler: from a board to a board, with a shift."""
    names = "abcdefghijkl"
    return Organ(BOARDS + [("coupler", name) + coupler for name, coupler in zip(names, couplers)])


class TestArguments(unittest.TestCase):
    def test_names_of_arguments(self):
        for name, wanted in (("led_to", ["organ", "knob", "key"]), ("down_keys", ["organ", "knobs", "held"]),
                             ("coupled_keys", ["organ", "knobs", "held"]),
                             ("trail_to", ["organ", "knobs", "held", "key", "least"])):
            with self.subTest(name):
                self.assertEqual(list(inspect.signature(getattr(net, name)).parameters), wanted)
        self.assertEqual(inspect.signature(trail_to).parameters["least"].default, 0)


class TestLedTo(unittest.TestCase):
    def check(self, coupler, wanted):
        organ = organ_of(coupler)
        told = [led_to(organ, 0, key) for key in range(12)]
        with self.subTest(coupler):
            self.assertEqual(told, [wanted.get(key) for key in range(12)])

    def test_from_one_board_to_another(self):
        self.check(("great", "swell", 0), {0: 5, 1: 6, 2: 7})
        self.check(("great", "swell", 1), {0: 6, 1: 7})
        self.check(("great", "swell", 2), {0: 7})
        self.check(("great", "swell", 3), {})
        self.check(("great", "swell", -1), {1: 5, 2: 6, 3: 7})
        self.check(("great", "swell", -2), {2: 5, 3: 6, 4: 7})
        self.check(("great", "swell", -4), {4: 5})
        self.check(("great", "swell", -5), {})
        self.check(("swell", "great", 0), {5: 0, 6: 1, 7: 2})
        self.check(("swell", "great", 2), {5: 2, 6: 3, 7: 4})
        self.check(("swell", "great", 4), {5: 4})
        self.check(("swell", "great", 5), {})
        self.check(("swell", "great", -2), {7: 0})
        self.check(("swell", "great", -3), {})
        self.check(("great", "pedal", 0), {0: 8, 1: 9, 2: 10, 3: 11})
        self.check(("pedal", "great", 1), {8: 1, 9: 2, 10: 3, 11: 4})
        self.check(("pedal", "swell", -1), {9: 5, 10: 6, 11: 7})

    def test_from_a_board_to_itself(self):
        self.check(("great", "great", 0), {0: 0, 1: 1, 2: 2, 3: 3, 4: 4})
        self.check(("great", "great", 1), {0: 1, 1: 2, 2: 3, 3: 4})
        self.check(("swell", "swell", 2), {5: 7})
        self.check(("swell", "swell", -1), {6: 5, 7: 6})
        self.check(("swell", "swell", 3), {})
        self.check(("pedal", "pedal", -3), {11: 8})
        self.check(("pedal", "pedal", -4), {})

    def test_the_farthest_shifts(self):
        self.check(("great", "swell", 60), {})
        self.check(("great", "swell", -60), {})
        organ = Organ([("board", "a", 61), ("board", "b", 61), ("coupler", "up", "a", "b", 60),
                       ("coupler", "down", "b", "a", -60), ("coupler", "self", "b", "b", -60)])
        self.assertEqual([led_to(organ, 0, key) for key in range(122)], [121] + [None] * 121)
        self.assertEqual([led_to(organ, 1, key) for key in range(122)], [None] * 121 + [0])
        self.assertEqual([led_to(organ, 2, key) for key in range(122)], [None] * 121 + [61])

    def test_each_knob_by_its_own_number(self):
        organ = Organ(MIXED)
        self.assertEqual([led_to(organ, 2, key) for key in range(8)], [None, None, None, None, 0, 1, 2, None])
        self.assertEqual([led_to(organ, 4, key) for key in range(8)], [2] + [None] * 7)

    def test_many_organs(self):
        for rows, _ in chance_organs(9, 150):
            organ, model = Organ(rows), Model(rows)
            for knob in model.couplers(range(len(model.knobs))):
                for key in range(organ.key_count()):
                    self.assertEqual(led_to(organ, knob, key), model.led(knob, key))

    def test_numbers_beyond_the_keys_lead_nowhere(self):
        organ = organ_of(("great", "great", -4), ("pedal", "pedal", -3), ("pedal", "great", -3))
        for knob in range(3):
            for key in (-1, -2, -12, 12, 13, 15, 1199, 1200):
                self.assertIsNone(led_to(organ, knob, key))


class TestDownAndCoupled(unittest.TestCase):
    def check(self, organ, knobs, held, coupled):
        with self.subTest(knobs=knobs, held=held):
            self.assertEqual(members(coupled_keys(organ, bits(knobs), bits(held))), sorted(coupled))
            self.assertEqual(members(down_keys(organ, bits(knobs), bits(held))), sorted(set(held) | set(coupled)))

    def test_no_held_keys(self):
        organ = organ_of(("great", "swell", 0), ("great", "great", 0))
        for knobs in ([], [0], [1], [0, 1]):
            self.check(organ, knobs, [], [])

    def test_no_drawn_couplers(self):
        organ = organ_of(("great", "swell", 0), ("great", "great", 1))
        for held in ([0], [11], [0, 5, 8], list(range(12))):
            self.check(organ, [], held, [])

    def test_an_organ_without_knobs(self):
        self.check(Organ(BOARDS), [], [0, 11], [])

    def test_one_step(self):
        organ = organ_of(("great", "swell", 0))
        self.check(organ, [0], [0], [5])
        self.check(organ, [0], [2], [7])
        self.check(organ, [0], [3], [])
        self.check(organ, [0], [5], [])
        self.check(organ, [0], [0, 3, 8], [5])
        self.check(organ, [0], [0, 5], [5])
        self.check(organ, [0], GREAT, SWELL)

    def test_chains_over_several_boards(self):
        organ = organ_of(("pedal", "great", 0), ("great", "swell", 1))
        self.check(organ, [0], [8], [0])
        self.check(organ, [1], [8], [])
        self.check(organ, [0, 1], [8], [0, 6])
        self.check(organ, [0, 1], [9, 3], [1, 7])
        self.check(organ, [0, 1], [10], [2])
        self.check(organ, [0, 1], PEDAL, [0, 1, 2, 3, 6, 7])

    def test_a_chain_whose_couplers_stand_in_the_other_order(self):
        organ = organ_of(("great", "swell", 1), ("pedal", "great", 0))
        self.check(organ, [0, 1], [8], [0, 6])

    def test_a_board_to_itself_leads_on_and_on(self):
        organ = organ_of(("great", "great", 1), ("great", "great", -1), ("great", "great", 2))
        self.check(organ, [0], [0], [1, 2, 3, 4])
        self.check(organ, [0], [2], [3, 4])
        self.check(organ, [0], [4], [])
        self.check(organ, [1], [4], [0, 1, 2, 3])
        self.check(organ, [1], [0], [])
        self.check(organ, [2], [0], [2, 4])
        self.check(organ, [2], [1], [3])
        self.check(organ, [0], [0, 2], [1, 2, 3, 4])
        self.check(organ, [0, 1], [2], [0, 1, 2, 3, 4])

    def test_a_long_board_to_itself(self):
        organ = Organ([("board", "a", 61), ("coupler", "up", "a", "a", 1), ("coupler", "down", "a", "a", -1)])
        self.check(organ, [0], [0], range(1, 61))
        self.check(organ, [1], [60], range(60))
        self.check(organ, [0, 1], [30], range(61))

    def test_a_chain_through_all_keys_of_five_boards(self):
        rows = [("board", name, 61) for name in "abcde"]
        rows += [("coupler", "up" + name, name, name, 1) for name in "abcde"]
        rows += [("coupler", "on" + name, name, following, -60) for name, following in zip("abcd", "bcde")]
        self.check(Organ(rows), range(9), [0], range(1, 305))

    def test_shift_nought_on_one_board_couples_each_key_to_itself(self):
        organ = organ_of(("great", "great", 0))
        self.check(organ, [0], [3], [3])
        self.check(organ, [0], [3, 8], [3])

    def test_rings(self):
        organ = organ_of(("great", "swell", 0), ("swell", "great", 0))
        self.check(organ, [0, 1], [0], [0, 5])
        self.check(organ, [0, 1], [5], [0, 5])
        self.check(organ, [0, 1], [3], [])
        self.check(organ, [0, 1], [3, 1], [1, 6])
        self.check(organ, [0], [0], [5])
        self.check(organ, [1], [0], [])

    def test_a_ring_that_the_held_key_is_no_part_of(self):
        organ = organ_of(("pedal", "great", 0), ("great", "swell", 0), ("swell", "great", 0))
        self.check(organ, [0, 1, 2], [8], [0, 5])
        self.check(organ, [0, 1, 2], [8, 5], [0, 5])

    def test_a_ring_that_climbs(self):
        organ = organ_of(("great", "swell", 0), ("swell", "great", 1))
        self.check(organ, [0, 1], [0], [1, 2, 3, 5, 6, 7])
        self.check(organ, [0, 1], [6], [2, 3, 7])

    def test_drawn_stops_and_mutes_beside_and_couplers_that_are_not_drawn(self):
        rows = BOARDS + [("rank", "flute", 9, 1), ("stop", "open", "great"), ("line", "flute", 1, 0, 4),
                         ("coupler", "a", "great", "swell", 0), ("mute", "hush", "great"), ("stop", "bare", "swell"),
                         ("coupler", "b", "swell", "pedal", 1), ("mute", "still", "swell"),
                         ("coupler", "c", "great", "pedal", 0)]
        organ = Organ(rows)
        others = ([], [0], [2], [3], [5], [0, 2, 3, 5])
        for beside in others:
            self.check(organ, beside, [0, 6], [])
            self.check(organ, beside + [1], [0], [5])
            self.check(organ, beside + [4], [0], [])
            self.check(organ, beside + [1, 4], [0], [5, 9])
            self.check(organ, beside + [6], [0, 6], [8])
            self.check(organ, beside + [1, 4, 6], [0], [5, 8, 9])

    def test_members_that_are_no_knobs_and_no_keys_mean_nothing(self):
        organ = organ_of(("great", "swell", 0), ("pedal", "pedal", -3))
        self.assertEqual(down_keys(organ, bits([0, 2, 3, 40, 1199]), bits([0])), bits([0, 5]))
        self.assertEqual(coupled_keys(organ, bits([0, 2, 3, 40, 1199]), bits([0])), bits([5]))
        for beyond in (12, 13, 14, 1199, 1200, 1300):
            self.assertEqual(down_keys(organ, bits([0, 1]), bits([0, beyond])), bits([0, 5]))
            self.assertEqual(coupled_keys(organ, bits([0, 1]), bits([0, beyond])), bits([5]))
            self.assertIsNone(trail_to(organ, bits([0, 1]), bits([0, beyond]), beyond))
            self.assertIsNone(trail_to(organ, bits([0, 1]), bits([0, beyond]), 8))

    def test_they_are_whole_numbers(self):
        organ = organ_of(("great", "swell", 0))
        for knobs in (0, 1):
            for held in (0, 1):
                self.assertIs(type(down_keys(organ, knobs, held)), int)
                self.assertIs(type(coupled_keys(organ, knobs, held)), int)

    def test_many_organs(self):
        for rows, chance in chance_organs(10, 400):
            organ, model = Organ(rows), Model(rows)
            for _ in range(4):
                knobs = chance_subset(chance, len(model.knobs))
                held = chance_subset(chance, len(model.pairs))
                self.assertEqual(down_keys(organ, bits(knobs), bits(held)), bits(model.down(knobs, held)))
                self.assertEqual(coupled_keys(organ, bits(knobs), bits(held)), bits(model.coupled(knobs, held)))

    def test_the_greatest_organ(self):
        organ, model = Organ(most_rows()), Model(most_rows())
        for held in ([], [0], [304], [0, 61, 122, 183, 244], range(0, 305, 7), range(305)):
            for knobs in ([], range(24, 36), range(41), range(0, 41, 2)):
                self.assertEqual(down_keys(organ, bits(knobs), bits(held)), bits(model.down(knobs, held)))
                self.assertEqual(coupled_keys(organ, bits(knobs), bits(held)), bits(model.coupled(knobs, held)))


class TestTrails(unittest.TestCase):
    def check_trail(self, model, knobs, held, key, least, trail):
        self.assertIsNone(model.fault_of_trail(knobs, held, key, least, trail), trail)

    def check_all(self, rows, knobs, held):
        organ, model = Organ(rows), Model(rows)
        down, coupled = model.down(knobs, held), model.coupled(knobs, held)
        for key in range(organ.key_count()):
            asked = (organ, bits(knobs), bits(held), key)
            for least, some in ((0, down), (1, coupled)):
                trail = trail_to(*asked, least)
                if key in some:
                    self.check_trail(model, set(knobs), set(held), key, least, trail)
                else:
                    self.assertIsNone(trail)
            self.assertEqual(trail_to(*asked) is None, key not in down)
            if key in down:
                self.check_trail(model, set(knobs), set(held), key, 0, trail_to(*asked))

    def rows_of(self, *couplers):
        return organ_of(*couplers).rows()

    def test_trails_that_can_only_be_one(self):
        organ = organ_of(("pedal", "great", 0), ("great", "swell", 1))
        self.assertEqual(trail_to(organ, 0, bits([8]), 8), (8, []))
        self.assertEqual(trail_to(organ, 3, bits([8]), 8), (8, []))
        self.assertEqual(trail_to(organ, 3, bits([8]), 8, least=0), (8, []))
        self.assertEqual(trail_to(organ, 3, bits([8]), 0), (8, [(0, 0)]))
        self.assertEqual(trail_to(organ, 3, bits([8]), 0, 1), (8, [(0, 0)]))
        self.assertEqual(trail_to(organ, 3, bits([8]), 6), (8, [(0, 0), (1, 6)]))
        self.assertEqual(trail_to(organ, 3, bits([8]), 6, least=1), (8, [(0, 0), (1, 6)]))
        self.assertIsNone(trail_to(organ, 3, bits([8]), 8, 1))
        self.assertIsNone(trail_to(organ, 3, bits([8]), 7))
        self.assertIsNone(trail_to(organ, 1, bits([8]), 6))
        self.assertIsNone(trail_to(organ, 2, bits([8]), 0))
        self.assertIsNone(trail_to(organ, 3, 0, 8))

    def test_trails_to_a_held_key_that_is_coupled(self):
        organ = organ_of(("great", "swell", 0), ("swell", "great", 0), ("great", "great", 0))
        self.assertEqual(trail_to(organ, 3, bits([0]), 0), (0, []))
        self.assertEqual(trail_to(organ, 3, bits([0]), 0, 1), (0, [(0, 5), (1, 0)]))
        self.assertEqual(trail_to(organ, 3, bits([0]), 5, 1), (0, [(0, 5)]))
        self.assertEqual(trail_to(organ, 4, bits([0]), 0, 1), (0, [(2, 0)]))
        self.assertEqual(trail_to(organ, 4, bits([0]), 0, 0), (0, []))
        self.assertEqual(trail_to(organ, 1, bits([0, 5]), 5, 1), (0, [(0, 5)]))
        self.assertEqual(trail_to(organ, 1, bits([0, 5]), 5, 0), (5, []))
        self.assertIsNone(trail_to(organ, 1, bits([0, 5]), 0, 1))

    def test_a_trail_past_another_held_key_meets_no_key_twice(self):
        rows = self.rows_of(("great", "great", 1), ("great", "great", -1))
        for held in ([0], [4], [2], [0, 4], [0, 1, 2, 3, 4], [1, 3]):
            for knobs in ([0], [1], [0, 1]):
                self.check_all(rows, knobs, held)

    def test_rings(self):
        rows = self.rows_of(("great", "swell", 0), ("swell", "great", 1), ("swell", "pedal", 1),
                            ("pedal", "great", -2), ("great", "great", 0))
        for knobs in ([0, 1], [0, 2, 3], [0, 1, 2, 3], [4], [0, 1, 2, 3, 4]):
            for held in ([0], [4], [5], [11], [0, 5, 8], [3, 7, 10], range(12)):
                self.check_all(rows, knobs, held)

    def test_chains_as_long_as_may_be(self):
        rows = [("board", name, 61) for name in "abcde"]
        rows += [("coupler", "up" + name, name, name, 1) for name in "abcde"]
        rows += [("coupler", "on" + name, name, following, -60) for name, following in zip("abcde", "bcdea")]
        organ, model = Organ(rows), Model(rows)
        trail = trail_to(organ, 2 ** 10 - 1, 1, 304)
        self.check_trail(model, set(range(10)), {0}, 304, 0, trail)
        self.assertEqual(len(trail[1]), 304)
        round_trail = trail_to(organ, 2 ** 10 - 1, 1, 0, 1)
        self.check_trail(model, set(range(10)), {0}, 0, 1, round_trail)
        self.assertEqual(len(round_trail[1]), 305)

    def test_stops_and_mutes_beside(self):
        for knobs in ([], [2], [4], [2, 4], range(7), [0, 1, 3, 5, 6]):
            for held in ([], [0], [3, 6], [4, 0], range(8)):
                self.check_all(MIXED, knobs, held)

    def test_many_organs(self):
        for rows, chance in chance_organs(11, 250):
            model = Model(rows)
            for _ in range(3):
                self.check_all(rows, chance_subset(chance, len(model.knobs)), chance_subset(chance, len(model.pairs)))

    def test_numbers_that_are_no_keys_have_no_trail(self):
        organ = organ_of(("great", "great", 0))
        for key in (-1, -12, 12, 13, 1199, 1200, 10 ** 30, -10 ** 30):
            for least in (0, 1):
                self.assertIsNone(trail_to(organ, 1, bits(range(12)), key, least))

    def test_a_told_trail_is_the_askers_own(self):
        organ = organ_of(("great", "great", 1))
        for key in (0, 1, 4):
            kept = trail_to(organ, 1, 1, key)
            told = trail_to(organ, 1, 1, key)
            told[1].append((5, 5))
            told[1].reverse()
            self.assertEqual(trail_to(organ, 1, 1, key), kept)
            told[1].clear()
            self.assertEqual(trail_to(organ, 1, 1, key), kept)
            self.assertEqual(coupled_keys(organ, 1, 1), bits([1, 2, 3, 4]))

    def test_nothing_asked_later_changes_a_told_trail(self):
        organ = organ_of(("great", "great", 1))
        told = trail_to(organ, 1, 1, 3)
        for key in range(12):
            trail_to(organ, 1, 1, key)
            trail_to(organ, 0, 3, key, 1)
        self.assertEqual(told, (0, [(0, 1), (0, 2), (0, 3)]))


class TestNothingIsChanged(unittest.TestCase):
    def test_the_organ_stays_as_it_was(self):
        organ = Organ(MIXED)
        for held in (0, 1, 24, 255):
            down_keys(organ, 127, held)
            coupled_keys(organ, 127, held)
            for key in range(8):
                trail_to(organ, 127, held, key)
                trail_to(organ, 127, held, key, 1)
                led_to(organ, 2, key)
        self.assertEqual(organ.rows(), MIXED)
        self.assertEqual(organ.boards(), [("great", 3), ("swell", 4), ("pedal", 1)])
        self.assertEqual(organ.coupler(2), (1, 0, -1))


if __name__ == "__main__":
    unittest.main()
