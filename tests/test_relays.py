"""Point [13], the board of relays, and what [2] says of it: it tells the same pipes as walking."""

import inspect
import unittest

from sample_organs import MIXED, Model, bits, chance_organs, chance_subset, members, most_rows
from windchest.organ import Organ
from windchest.pipes import sounding_pipes
from windchest.relays import Relays

# Keys 0 to 3 are great's, 4 to 6 swell's; pipes 0 to 4 are flute's, 5 and 6 reed's.
# Knobs: 0 a stop of great, 1 one of swell, 2 to 4 couplers, 5 and 6 mutes of great and of swell.
ROWS = [("board", "great", 4), ("board", "swell", 3), ("rank", "flute", 5, 1), ("rank", "reed", 2, 1),
        ("stop", "open", "great"), ("line", "flute", 0, 0, 2), ("stop", "horn", "swell"), ("line", "reed", 0, 0, 2),
        ("line", "flute", 2, 1, 2), ("coupler", "down", "great", "swell", 0), ("coupler", "up", "swell", "great", 0),
        ("coupler", "on", "great", "great", 1), ("mute", "hush", "great"), ("mute", "still", "swell")]


def rows_of(relays, count):
    return [members(relays.row_of(key)) for key in range(count)]


def gangs_by_rows(rows):
    """The gangs by point [13], of the rows alone."""
    told = [(bits(other for other, row in enumerate(rows) if row == each), each) for each in rows if each]
    return sorted(set(told), key=lambda gang: members(gang[0])[0])


class TestArguments(unittest.TestCase):
    def test_names_of_arguments(self):
        self.assertEqual(list(inspect.signature(Relays).parameters), ["organ", "knobs"])
        for name, wanted in (("row_of", ["self", "key"]), ("gangs", ["self"]), ("sound", ["self", "held"])):
            with self.subTest(name):
                self.assertEqual(list(inspect.signature(getattr(Relays, name)).parameters), wanted)


class TestRows(unittest.TestCase):
    def check(self, knobs, wanted):
        with self.subTest(knobs=knobs):
            relays = Relays(Organ(ROWS), bits(knobs))
            self.assertEqual(rows_of(relays, 7), wanted)

    def test_no_knobs(self):
        self.check([], [[]] * 7)

    def test_stops(self):
        self.check([0], [[0], [1], [2], [], [], [], []])
        self.check([1], [[], [], [], [], [5], [3, 6], [4]])
        self.check([0, 1], [[0], [1], [2], [], [5], [3, 6], [4]])

    def test_couplers(self):
        self.check([2], [[]] * 7)
        self.check([1, 2], [[5], [3, 6], [4], [], [5], [3, 6], [4]])
        self.check([0, 1, 2], [[0, 5], [1, 3, 6], [2, 4], [], [5], [3, 6], [4]])
        self.check([0, 3], [[0], [1], [2], [], [0], [1], [2]])
        self.check([0, 4], [[0, 1, 2], [1, 2], [2], [], [], [], []])

    def test_rings(self):
        self.check([0, 1, 2, 3], [[0, 5], [1, 3, 6], [2, 4], [], [0, 5], [1, 3, 6], [2, 4]])
        self.check([0, 1, 2, 3, 4], [[0, 1, 2, 3, 4, 5, 6], [1, 2, 3, 4, 6], [2, 4], [],
                                     [0, 1, 2, 3, 4, 5, 6], [1, 2, 3, 4, 6], [2, 4]])

    def test_mutes(self):
        self.check([0, 1, 5], [[], [], [], [], [5], [3, 6], [4]])
        self.check([0, 1, 6], [[0], [1], [2], [], [], [], []])
        self.check([0, 1, 2, 5, 6], [[5], [3, 6], [4], [], [], [], []])
        self.check([0, 4, 5], [[1, 2], [2], [], [], [], [], []])

    def test_a_ring_makes_its_own_key_speak_on_a_muted_board(self):
        self.check([0, 1, 2, 3, 5, 6], [[0, 5], [1, 3, 6], [2, 4], [], [0, 5], [1, 3, 6], [2, 4]])

    def test_against_walking(self):
        for rows in (ROWS, MIXED):
            organ = Organ(rows)
            for knobs in range(128):
                relays = Relays(organ, knobs)
                for key in range(organ.key_count()):
                    told = relays.row_of(key)
                    self.assertIs(type(told), int)
                    self.assertEqual(told, sounding_pipes(organ, knobs, 1 << key))

    def test_against_a_model_for_many_organs(self):
        for rows, chance in chance_organs(17, 250):
            organ, model = Organ(rows), Model(rows)
            for _ in range(2):
                knobs = chance_subset(chance, len(model.knobs))
                relays = Relays(organ, bits(knobs))
                for key in range(len(model.pairs)):
                    self.assertEqual(relays.row_of(key), bits(model.sounding(knobs, [key])))

    def test_long_chains_and_rings(self):
        rows = [("board", name, 61) for name in "abcde"] + [("rank", "flute", 97, 1)]
        rows += [("stop", "s", "a"), ("line", "flute", 36, 0, 60), ("stop", "t", "e"), ("line", "flute", 0, 0, 60)]
        rows += [("coupler", "up" + name, name, name, 1) for name in "abcde"]
        rows += [("coupler", "on" + name, name, following, -60) for name, following in zip("abcde", "bcdea")]
        organ = Organ(rows)
        chain = Relays(organ, bits(range(11)))
        # Each key of a leads on to those above it, and to all of e.
        self.assertEqual(rows_of(chain, 61), [sorted({*range(61), *range(36 + key, 97)}) for key in range(61)])
        self.assertEqual(chain.row_of(304), bits([60]))
        ring = Relays(organ, bits(range(12)))
        self.assertEqual(ring.gangs(), [(bits(range(305)), bits(range(97)))])

    def test_numbers_that_are_no_keys_have_no_pipes(self):
        relays = Relays(Organ(ROWS), bits(range(5)))
        for key in (-1, -3, -7, 7, 8, 1199, 1200, 10 ** 9):
            self.assertEqual(relays.row_of(key), 0)

    def test_members_that_are_no_knobs_mean_nothing(self):
        organ = Organ(ROWS)
        self.assertEqual(rows_of(Relays(organ, bits([0, 7, 40, 1199])), 7), rows_of(Relays(organ, 1), 7))


class TestGangs(unittest.TestCase):
    def check(self, knobs, wanted):
        with self.subTest(knobs=knobs):
            told = Relays(Organ(ROWS), bits(knobs)).gangs()
            self.assertIs(type(told), list)
            self.assertEqual(told, [(bits(keys), bits(pipes)) for keys, pipes in wanted])

    def test_no_gang_of_keys_with_an_empty_row(self):
        self.check([], [])
        self.check([2, 3, 4, 5, 6], [])

    def test_one_key_alone(self):
        self.check([0], [([0], [0]), ([1], [1]), ([2], [2])])

    def test_several_keys_with_one_row(self):
        self.check([0, 3], [([0, 4], [0]), ([1, 5], [1]), ([2, 6], [2])])
        self.check([1, 2], [([0, 4], [5]), ([1, 5], [3, 6]), ([2, 6], [4])])
        self.check([0, 1, 2, 3], [([0, 4], [0, 5]), ([1, 5], [1, 3, 6]), ([2, 6], [2, 4])])

    def test_one_gang_of_all_keys(self):
        rows = [("board", "a", 3), ("rank", "r", 1, 0), ("stop", "s", "a"), ("line", "r", 0, 0, 0),
                ("coupler", "c", "a", "a", -1)]
        self.assertEqual(Relays(Organ(rows), 3).gangs(), [(7, 1)])

    def test_they_are_ordered_by_their_least_keys(self):
        # Key 0 has the greater row and pipe, and key 1 makes a gang with the last key.
        rows = [("board", "a", 4), ("rank", "r", 4, 0), ("stop", "s", "a"), ("line", "r", 3, 0, 0),
                ("line", "r", 0, 1, 1), ("line", "r", 0, 2, 2), ("line", "r", -2, 3, 3)]
        self.assertEqual(Relays(Organ(rows), 1).gangs(), [(1, 8), (bits([1, 3]), 2), (4, 4)])

    def test_against_the_rows_for_many_organs(self):
        for rows, chance in chance_organs(18, 200):
            organ = Organ(rows)
            relays = Relays(organ, bits(chance_subset(chance, len(organ.knobs()))))
            wanted = gangs_by_rows([relays.row_of(key) for key in range(organ.key_count())])
            self.assertEqual(relays.gangs(), wanted)

    def test_they_are_tuples_of_whole_numbers(self):
        for gang in Relays(Organ(ROWS), bits([0, 1, 2])).gangs():
            self.assertEqual([type(gang)] + [type(part) for part in gang], [tuple, int, int])

    def test_the_list_is_a_new_one_each_time(self):
        relays = Relays(Organ(ROWS), bits([0, 1]))
        told = relays.gangs()
        kept = list(told)
        told.append((1, 1))
        told.reverse()
        self.assertEqual(relays.gangs(), kept)
        told.clear()
        self.assertEqual(relays.gangs(), kept)
        self.assertEqual(rows_of(relays, 7), [[0], [1], [2], [], [5], [3, 6], [4]])
        self.assertEqual(relays.sound(bits([0, 4])), bits([0, 5]))


class TestSound(unittest.TestCase):
    def test_no_keys_one_several_and_all(self):
        relays = Relays(Organ(ROWS), bits([0, 1, 2]))
        for held, wanted in (([], []), ([0], [0, 5]), ([3], []), ([5], [3, 6]), ([0, 3, 6], [0, 4, 5]),
                             ([1, 5], [1, 3, 6]), (range(7), range(7))):
            with self.subTest(held=held):
                told = relays.sound(bits(held))
                self.assertIs(type(told), int)
                self.assertEqual(members(told), sorted(wanted))

    def test_against_walking_for_all_knobs_and_keys(self):
        organ = Organ(ROWS)
        for knobs in range(128):
            relays = Relays(organ, knobs)
            for held in range(128):
                self.assertEqual(relays.sound(held), sounding_pipes(organ, knobs, held))

    def test_against_walking_for_many_organs(self):
        for rows, chance in chance_organs(19, 250):
            organ, model = Organ(rows), Model(rows)
            knobs = chance_subset(chance, len(model.knobs))
            relays = Relays(organ, bits(knobs))
            for held in [set(), set(range(len(model.pairs)))] + [chance_subset(chance, len(model.pairs))] * 3:
                self.assertEqual(relays.sound(bits(held)), sounding_pipes(organ, bits(knobs), bits(held)))
                self.assertEqual(relays.sound(bits(held)), bits(model.sounding(knobs, held)))

    def test_the_greatest_organ(self):
        organ = Organ(most_rows())
        for knobs in (0, bits(range(24)), bits(range(36)), bits(range(41)), bits(range(0, 41, 3))):
            relays = Relays(organ, knobs)
            for held in ([], [0], [304], range(0, 305, 13), range(305)):
                self.assertEqual(relays.sound(bits(held)), sounding_pipes(organ, knobs, bits(held)))
            rows = [relays.row_of(key) for key in range(305)]
            self.assertEqual(rows[::19], [sounding_pipes(organ, knobs, 1 << key) for key in range(0, 305, 19)])
            self.assertEqual(relays.gangs(), gangs_by_rows(rows))

    def test_members_that_are_no_keys_mean_nothing(self):
        relays = Relays(Organ(ROWS), bits([0, 1, 2]))
        for beyond in (7, 8, 1199, 1200):
            self.assertEqual(relays.sound(bits([0, beyond])), bits([0, 5]))
            self.assertEqual(relays.sound(bits([beyond])), 0)


class TestNothingIsChanged(unittest.TestCase):
    def all_of(self, relays):
        return (rows_of(relays, 7), relays.gangs(), [relays.sound(held) for held in range(128)])

    def test_a_board_of_relays_stays_as_it_was_compiled(self):
        rows = list(ROWS)
        organ = Organ(rows)
        relays = Relays(organ, bits([0, 1, 2]))
        wanted = self.all_of(Relays(Organ(ROWS), bits([0, 1, 2])))
        rows.clear()
        for told in (organ.rows(), organ.boards(), organ.ranks(), organ.knobs(), organ.steps(), organ.stop(0)[1]):
            told.clear()
        self.assertEqual(self.all_of(relays), wanted)
        self.assertEqual(self.all_of(relays), wanted)

    def test_two_of_one_organ_do_not_disturb_each_other(self):
        organ = Organ(ROWS)
        one, wanted = Relays(organ, bits([0, 1, 2])), self.all_of(Relays(Organ(ROWS), bits([0, 1, 2])))
        other, others = Relays(organ, bits([0, 4, 5])), self.all_of(Relays(Organ(ROWS), bits([0, 4, 5])))
        self.assertNotEqual(wanted, others)
        for _ in range(2):
            self.assertEqual(self.all_of(one), wanted)
            self.assertEqual(self.all_of(other), others)

    def test_the_organ_stays_as_it_was(self):
        organ = Organ(ROWS)
        relays = Relays(organ, 127)
        relays.gangs().clear()
        relays.sound(127)
        self.assertEqual(organ.rows(), ROWS)
        self.assertEqual(organ.stop(0), (0, [(0, 0, 0, 2)]))
        self.assertEqual(organ.coupler(2), (0, 1, 0))

    def test_what_was_told_stays_as_it_was(self):
        relays = Relays(Organ(ROWS), 3)
        told = relays.gangs()
        kept = list(told)
        relays.sound(127)
        relays.gangs().clear()
        Relays(Organ(ROWS), 127).gangs()
        self.assertEqual(told, kept)


if __name__ == "__main__":
    unittest.main()
