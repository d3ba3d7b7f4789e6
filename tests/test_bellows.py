"""Points [21] to [23]: the draught of a barrel, what is left in the bellows, and the least cap."""

import inspect
import random
import unittest

from sample_organs import MIXED, chance_columns, chance_rows, columns_of_holes, most_rows, roll_of_columns
from windchest.bellows import draught_of, first_lack, least_cap, wind_left
from windchest.organ import Organ

MOST_TICKS = 10 ** 12
MOST_WIND = 10 ** 15
MOST_CAP = 10 ** 30
GREAT = 10 ** 9
# The pipes 0 to 4 take 4 each (flute), 5 and 6 a milliard (reed), 7 nothing (bass).
ORGAN = Organ(MIXED)
# One pipe each of 0, 1, 2, 3 and 6: several of them may take as much as another one.
WINDS = (0, 1, 2, 3, 6)
FIVE = Organ([("board", "a", 1)] + [("rank", "r" + letter, 1, wind) for letter, wind in zip("abcde", WINDS)])


def draught_of_winds(winds):
    """For a list with the wind of each tick the stretches, by point [21]."""
    stretches = []
    for tick, wind in enumerate(winds):
        if stretches and stretches[-1][2] == wind:
            stretches[-1] = (stretches[-1][0], tick + 1, wind)
        else:
            stretches.append((tick, tick + 1, wind))
    return stretches


def counted(winds, pump, cap):
    """What is there behind each tick, None from the first tick on that lacks, by point [22]."""
    there, left = cap, []
    for wind in winds:
        if there is not None:
            there = there + pump - wind
            there = None if there < 0 else min(cap, there)
        left.append(there)
    return left


def chance_winds(chance, most_ticks=12, most_wind=6):
    winds = []
    while len(winds) < most_ticks and chance.randrange(8):
        winds += [chance.randint(0, most_wind)] * chance.randint(1, 4)
    return winds[:most_ticks]


def long_draught(chance, most_wind=MOST_WIND):
    """A draught of many ticks; neighbours with the same wind may come by chance, though hardly ever."""
    ticks = sorted({0} | {chance.randrange(10 ** chance.randint(1, 12)) for _ in range(chance.randint(1, 30))})
    return [(first, behind, chance.randint(0, most_wind)) for first, behind in zip(ticks, ticks[1:])]


def taken_until(draught, pump, tick):
    """How much more than the pump gives is taken at all ticks ahead of this one."""
    return sum((min(behind, tick) - first) * (wind - pump) for first, behind, wind in draught if first < tick)


def short_by(draught, pump, tick):
    """How much the bellows are short of full behind this tick, were the cap without bounds: the most that is taken,
    beyond what the pump gives, from some tick on. Within a stretch this grows or falls alike, so its ends will do."""
    ends = [first for first, _, _ in draught if first <= tick]
    taken = taken_until(draught, pump, tick + 1)
    return max([0] + [taken - taken_until(draught, pump, end) for end in ends])


class TestArguments(unittest.TestCase):
    def test_names_of_arguments(self):
        for function, names in ((draught_of, ["organ", "barrel"]), (first_lack, ["draught", "pump", "cap"]),
                                (wind_left, ["draught", "pump", "cap", "tick"]), (least_cap, ["draught", "pump"])):
            self.assertEqual(list(inspect.signature(function).parameters), names)


class TestDraught(unittest.TestCase):
    def check(self, length, holes, wanted, organ=ORGAN):
        kept = list(holes)
        self.assertEqual(draught_of(organ, (length, holes)), wanted)
        self.assertEqual(holes, kept)

    def test_kinds(self):
        told = draught_of(ORGAN, (5, [(0, 1, 2)]))
        self.assertEqual([type(told), type(told[0])] + [type(part) for part in told[0]], [list, tuple, int, int, int])

    def test_no_ticks(self):
        self.check(0, [], [])

    def test_no_holes(self):
        for length in (1, 2, 10, MOST_TICKS):
            self.check(length, [], [(0, length, 0)])

    def test_one_pipe(self):
        self.check(5, [(0, 0, 5)], [(0, 5, 4)])
        self.check(5, [(0, 0, 2)], [(0, 2, 4), (2, 5, 0)])
        self.check(5, [(0, 2, 5)], [(0, 2, 0), (2, 5, 4)])
        self.check(5, [(0, 2, 4)], [(0, 2, 0), (2, 4, 4), (4, 5, 0)])
        self.check(1, [(6, 0, 1)], [(0, 1, GREAT)])

    def test_each_rank_takes_its_own_wind(self):
        for pipe, wind in enumerate([4] * 5 + [GREAT] * 2):
            self.check(5, [(pipe, 1, 3)], [(0, 1, 0), (1, 3, wind), (3, 5, 0)])

    def test_pipes_that_take_no_wind(self):
        self.check(5, [(7, 1, 3)], [(0, 5, 0)])
        self.check(5, [(7, 0, 5)], [(0, 5, 0)])
        self.check(5, [(0, 1, 4), (7, 2, 3)], [(0, 1, 0), (1, 4, 4), (4, 5, 0)])

    def test_several_pipes(self):
        self.check(9, [(0, 1, 6), (5, 2, 4), (1, 3, 6)],
                   [(0, 1, 0), (1, 2, 4), (2, 3, GREAT + 4), (3, 4, GREAT + 8), (4, 6, 8), (6, 9, 0)])

    def test_a_sum_that_stays_when_pipes_change(self):
        self.check(9, [(0, 0, 4), (1, 4, 9)], [(0, 9, 4)])
        self.check(9, [(0, 1, 4), (1, 4, 6), (2, 6, 8)], [(0, 1, 0), (1, 8, 4), (8, 9, 0)])
        self.check(9, [(3, 0, 4), (1, 4, 9), (2, 4, 9)], [(0, 9, 3)], FIVE)
        self.check(9, [(1, 0, 4), (2, 0, 4), (3, 4, 7), (0, 5, 6)], [(0, 7, 3), (7, 9, 0)], FIVE)
        self.check(9, [(4, 0, 3), (1, 3, 9), (2, 3, 9), (3, 3, 9)], [(0, 9, 6)], FIVE)

    def test_the_same_wind_again_is_another_stretch(self):
        self.check(9, [(0, 0, 3), (0, 4, 9)], [(0, 3, 4), (3, 4, 0), (4, 9, 4)])

    def test_long_ones(self):
        self.check(MOST_TICKS, [(0, 10 ** 6, 10 ** 11)],
                   [(0, 10 ** 6, 0), (10 ** 6, 10 ** 11, 4), (10 ** 11, MOST_TICKS, 0)])
        self.check(MOST_TICKS, [(5, 0, MOST_TICKS)], [(0, MOST_TICKS, GREAT)])

    def test_the_greatest_organ(self):
        """Pipe 97 * k and those behind it, to the next rank, take k each."""
        organ = Organ(most_rows())
        holes = [(pipe, 0, 9) for pipe in range(0, 1164, 3)]
        self.check(9, holes, [(0, 9, sum(pipe // 97 for pipe in range(0, 1164, 3)))], organ)
        self.check(9, [(1163, 0, 9)], [(0, 9, 11)], organ)
        self.check(9, [(96, 0, 9), (97, 3, 9)], [(0, 3, 0), (3, 9, 1)], organ)

    def test_the_most_wind(self):
        rows = [("board", "a", 1)] + [("rank", "r" + letter, 97, GREAT) for letter in "abcde"]
        holes = [(pipe, 0, 5) for pipe in range(400)]
        self.check(5, holes, [(0, 5, 400 * GREAT)], Organ(rows))

    def test_tick_by_tick(self):
        seen = 0
        chance = random.Random(110)
        for _ in range(200):
            columns = chance_columns(chance, chance.randint(0, 12), 5)
            barrel = roll_of_columns(columns)
            winds = [sum(WINDS[pipe] for pipe in column) for column in columns]
            self.check(*barrel, draught_of_winds(winds), FIVE)
            seen += len(columns) - len(draught_of_winds(winds))
        self.assertGreater(seen, 100)

    def test_tick_by_tick_on_many_organs(self):
        chance = random.Random(111)
        for _ in range(60):
            rows = chance_rows(chance)
            winds = [row[3] for row in rows if row[0] == "rank" for _ in range(row[2])]
            columns = chance_columns(chance, 8, len(winds))
            length, holes = roll_of_columns(columns)
            self.assertEqual(columns_of_holes(length, holes), columns)
            wanted = draught_of_winds([sum(winds[pipe] for pipe in column) for column in columns])
            self.check(length, holes, wanted, Organ(rows))

    def test_each_list_is_new(self):
        barrel = (5, [(0, 1, 2)])
        one, other = draught_of(ORGAN, barrel), draught_of(ORGAN, barrel)
        one.append("more")
        barrel[1].clear()
        self.assertEqual(other, [(0, 1, 0), (1, 2, 4), (2, 5, 0)])
        self.assertEqual(draught_of(ORGAN, barrel), [(0, 5, 0)])
        self.assertEqual(ORGAN.rows(), MIXED)


class TestFirstLackAndWindLeft(unittest.TestCase):
    def check(self, winds, pump, cap):
        """Against a count tick by tick."""
        draught = draught_of_winds(winds)
        kept = list(draught)
        left = counted(winds, pump, cap)
        lack = first_lack(draught, pump, cap)
        self.assertEqual(lack, left.index(None) if None in left else None)
        self.assertEqual([wind_left(draught, pump, cap, tick) for tick in range(len(winds))], left)
        self.assertEqual(draught, kept)
        return lack

    def test_by_hand(self):
        draught = [(0, 3, 2), (3, 5, 0), (5, 9, 4)]
        self.assertEqual([wind_left(draught, 1, 10, tick) for tick in range(9)], [9, 8, 7, 8, 9, 6, 3, 0, None])
        self.assertEqual(first_lack(draught, 1, 10), 8)
        self.assertEqual([wind_left(draught, 1, 13, tick) for tick in range(9)], [12, 11, 10, 11, 12, 9, 6, 3, 0])
        self.assertIsNone(first_lack(draught, 1, 13))
        self.assertEqual([wind_left(draught, 1, 2, tick) for tick in range(4)], [1, 0, None, None])
        self.assertEqual(first_lack(draught, 1, 2), 2)

    def test_never_more_than_the_cap(self):
        draught = [(0, 2, 5), (2, 9, 0), (9, 11, 8)]
        self.assertEqual([wind_left(draught, 3, 10, tick) for tick in range(11)], [8, 6, 9] + [10] * 6 + [5, 0])
        self.assertIsNone(first_lack(draught, 3, 10))

    def test_no_stretches(self):
        for pump in (0, 5, MOST_WIND):
            for cap in (0, 5, MOST_CAP):
                self.assertIsNone(first_lack([], pump, cap))

    def test_ticks_that_the_draught_has_not(self):
        for tick in (0, 1, 5):
            self.assertIsNone(wind_left([], 1, 5, tick))
        for tick in (-1, 4, 5, 10 ** 30):
            self.assertIsNone(wind_left([(0, 2, 1), (2, 4, 0)], 5, 5, tick))

    def test_a_cap_of_nought(self):
        for pump in range(4):
            for wind in range(4):
                lack = self.check([wind] * 3, pump, 0)
                self.assertEqual(lack, 0 if wind > pump else None)
        self.assertEqual(self.check([1, 1, 0, 2, 0], 1, 0), 3)

    def test_wind_that_is_just_what_there_is(self):
        self.assertIsNone(self.check([7], 2, 5))
        self.assertEqual(self.check([8], 2, 5), 0)
        self.assertIsNone(self.check([3, 3, 3], 1, 6))
        self.assertEqual(self.check([3, 3, 3, 2], 1, 6), 3)
        self.assertEqual(self.check([3, 3, 3], 1, 5), 2)
        self.assertIsNone(self.check([3, 3, 3, 1, 1, 1], 1, 6))

    def test_no_pump(self):
        self.assertIsNone(self.check([2, 2, 2], 0, 6))
        self.assertEqual(self.check([2, 2, 2], 0, 5), 2)
        self.assertIsNone(self.check([0, 0, 0], 0, 0))

    def test_a_tick_behind_a_lack_is_none_though_the_pump_gives_more(self):
        draught = [(0, 1, 9), (1, 5, 0)]
        self.assertEqual(first_lack(draught, 3, 5), 0)
        self.assertEqual([wind_left(draught, 3, 5, tick) for tick in range(5)], [None] * 5)

    def test_the_first_of_several_lacks(self):
        self.assertEqual(self.check([0, 9, 0, 9], 1, 3), 1)

    def test_small_ones(self):
        chance, lacks = random.Random(112), []
        for _ in range(1500):
            lacks.append(self.check(chance_winds(chance), chance.randint(0, 5), chance.randint(0, 14)))
        self.assertGreater(len([tick for tick in lacks if tick is not None]), 400)
        self.assertGreater(lacks.count(None), 400)
        self.assertTrue(set(lacks) >= set(range(10)))

    def test_every_small_one(self):
        for first in range(4):
            for second in range(4):
                for third in range(4):
                    for pump in range(4):
                        for cap in range(5):
                            self.check([first, second, second, third], pump, cap)

    def test_a_cap_or_a_pump_somewhat_below_nought(self):
        """By the words alone: nothing is refused for it."""
        for wind in range(4):
            for pump in range(-2, 4):
                for cap in range(-3, 4):
                    self.check([wind] * 3 + [1, 1], pump, cap)


class TestLongDraughts(unittest.TestCase):
    def test_to_the_very_last(self):
        draught, cap = [(0, MOST_TICKS, MOST_WIND)], MOST_TICKS * MOST_WIND
        last = MOST_TICKS - 1
        self.assertIsNone(first_lack(draught, 0, cap))
        self.assertEqual(wind_left(draught, 0, cap, last), 0)
        self.assertEqual(wind_left(draught, 0, cap, last - 1), MOST_WIND)
        self.assertEqual(wind_left(draught, 0, cap, 0), cap - MOST_WIND)
        self.assertEqual(first_lack(draught, 0, cap - 1), last)
        self.assertIsNone(wind_left(draught, 0, cap - 1, last))
        self.assertEqual(wind_left(draught, 0, cap - 1, last - 1), MOST_WIND - 1)
        self.assertEqual(least_cap(draught, 0), (cap, 0, MOST_TICKS))
        self.assertEqual(least_cap(draught, MOST_WIND), (0, 0, 0))
        self.assertEqual(least_cap(draught, MOST_WIND - 1), (MOST_TICKS, 0, MOST_TICKS))

    def test_the_greatest_cap(self):
        draught = [(0, 5, MOST_WIND), (5, MOST_TICKS, 0)]
        self.assertEqual(wind_left(draught, 0, MOST_CAP, 4), MOST_CAP - 5 * MOST_WIND)
        self.assertEqual(wind_left(draught, 1, MOST_CAP, MOST_TICKS - 1), MOST_CAP - 5 * MOST_WIND + 5 + MOST_TICKS - 5)
        self.assertEqual(wind_left(draught, MOST_WIND, MOST_CAP, MOST_TICKS - 1), MOST_CAP)
        self.assertIsNone(first_lack(draught, 0, MOST_CAP))

    def test_filled_again_for_long(self):
        draught = [(0, 10, 100), (10, 10 ** 9, 0), (10 ** 9, MOST_TICKS, 2)]
        self.assertEqual(wind_left(draught, 1, 10 ** 6, 9), 10 ** 6 - 990)
        self.assertEqual(wind_left(draught, 1, 10 ** 6, 998), 10 ** 6 - 1)
        self.assertEqual(wind_left(draught, 1, 10 ** 6, 999), 10 ** 6)
        self.assertEqual(wind_left(draught, 1, 10 ** 6, 10 ** 9 - 1), 10 ** 6)
        self.assertEqual(wind_left(draught, 1, 10 ** 6, 10 ** 9 + 10 ** 6 - 1), 0)
        self.assertEqual(first_lack(draught, 1, 10 ** 6), 10 ** 9 + 10 ** 6)

    def test_a_tick_that_lacks_amid_a_long_stretch(self):
        draught = [(0, MOST_TICKS, 1007)]
        for cap in (0, 6, 7, 13, 14, 10 ** 9, 10 ** 9 + 5):
            self.assertEqual(first_lack(draught, 1000, cap), cap // 7)
            self.assertEqual([wind_left(draught, 1000, cap, cap // 7 + more) for more in (0, 1, 10 ** 6)], [None] * 3)
            if cap >= 7:
                self.assertEqual(wind_left(draught, 1000, cap, cap // 7 - 1), cap % 7)

    def check_lack(self, draught, pump, cap, lack):
        if lack is None:
            for _, behind, _ in draught:
                self.assertLessEqual(short_by(draught, pump, behind - 1), cap)
            return
        self.assertGreater(short_by(draught, pump, lack), cap)
        for tick in [behind - 1 for _, behind, _ in draught if behind <= lack] + [lack - 1] * (lack > 0):
            self.assertLessEqual(short_by(draught, pump, tick), cap)

    def test_drawn_ones(self):
        chance, lacks = random.Random(113), []
        for _ in range(400):
            draught = long_draught(chance, 10 ** chance.randint(1, 15))
            most = max([wind for _, _, wind in draught] + [1])
            pump = chance.choice((0, chance.randint(0, most), most // 2))
            cap = chance.choice((0, chance.randint(0, most), chance.randint(0, 10 ** 9 * most),
                                 max([short_by(draught, pump, behind - 1) for _, behind, _ in draught] + [0])))
            lack = first_lack(draught, pump, cap)
            self.check_lack(draught, pump, cap, lack)
            lacks.append(lack)
            ticks = [tick for first, behind, _ in draught for tick in (first, (first + behind) // 2, behind - 1)]
            for tick in ticks + ([max(lack - 1, 0), lack, lack + 1] if lack is not None else []):
                if tick < draught[-1][1]:
                    lacked = lack is not None and tick >= lack
                    wanted = None if lacked else cap - short_by(draught, pump, tick)
                    self.assertEqual(wind_left(draught, pump, cap, tick), wanted)
        self.assertGreater(lacks.count(None), 50)
        self.assertGreater(len(set(lacks)), 100)


class TestLeastCap(unittest.TestCase):
    def check(self, draught, pump, wanted=None):
        """That this is the least cap, and that the stretch that is told takes just so much."""
        kept = list(draught)
        told = least_cap(draught, pump)
        self.assertEqual([type(told)] + [type(part) for part in told], [tuple, int, int, int])
        cap, first, behind = told
        if wanted is not None:
            self.assertEqual(cap, wanted)
        self.assertIsNone(first_lack(draught, pump, cap))
        if cap > 0:
            self.assertTrue(0 <= first < behind <= draught[-1][1])
            taken = taken_until(draught, pump, behind) - taken_until(draught, pump, first)
            self.assertEqual(taken, cap)
            self.assertIsNotNone(first_lack(draught, pump, cap - 1))
        else:
            self.assertEqual(told, (0, 0, 0))
        self.assertEqual(draught, kept)
        return cap

    def test_none_is_needed(self):
        for draught in ([], [(0, 5, 0)], [(0, 5, 3)], [(0, 5, 3), (5, 9, 2), (9, 10, 3)]):
            for pump in (3, 4, MOST_WIND):
                self.assertEqual(least_cap(draught, pump), (0, 0, 0))
        self.assertEqual(least_cap([], 0), (0, 0, 0))
        self.assertEqual(least_cap([(0, MOST_TICKS, 0)], 0), (0, 0, 0))

    def test_by_hand(self):
        self.assertEqual(least_cap([(0, 5, 3)], 2), (5, 0, 5))
        self.assertEqual(least_cap([(0, 2, 1), (2, 5, 3)], 2), (3, 2, 5))
        self.assertEqual(least_cap([(0, 2, 3), (2, 5, 1)], 2), (2, 0, 2))
        self.assertEqual(least_cap([(0, 2, 0), (2, 5, 9), (5, 7, 0)], 2), (21, 2, 5))
        self.assertEqual(least_cap([(0, 1, 0), (1, 2, 1)], 0), (1, 1, 2))

    def test_stretches_with_others_of_less_wind_amid_them(self):
        """From tick 2 to 9: 9 more, then 4 less, then 12 more than the pump gives."""
        self.assertEqual(least_cap([(0, 2, 0), (2, 5, 5), (5, 7, 0), (7, 9, 8), (9, 12, 1)], 2), (17, 2, 9))
        self.assertEqual(least_cap([(0, 3, 5), (3, 7, 0), (7, 9, 8)], 2), (13, 0, 9))

    def test_where_what_lies_amid_them_gives_more(self):
        self.assertEqual(least_cap([(0, 3, 5), (3, 8, 0), (8, 10, 8)], 2), (12, 8, 10))
        self.assertEqual(least_cap([(0, 3, 9), (3, 8, 0), (8, 10, 8)], 2), (23, 0, 10))
        self.assertEqual(least_cap([(0, 3, 9), (3, 18, 0), (18, 20, 8)], 2), (21, 0, 3))

    def test_several_stretches_that_take_as_much(self):
        self.check([(0, 3, 5), (3, 9, 0), (9, 12, 5)], 2, 9)
        self.check([(0, 3, 4), (3, 6, 0), (6, 9, 4)], 2, 6)
        self.check([(0, 3, 2), (3, 6, 5), (6, 8, 2)], 2, 9)

    def test_small_ones_against_all_stretches(self):
        chance, caps = random.Random(114), []
        for _ in range(1000):
            winds, pump = chance_winds(chance), chance.randint(0, 5)
            wanted = max([0] + [sum(winds[first:behind]) - pump * (behind - first) for first in range(len(winds))
                                for behind in range(first + 1, len(winds) + 1)])
            caps.append(self.check(draught_of_winds(winds), pump, wanted))
        self.assertGreater(len(set(caps)), 25)

    def test_small_ones_tick_by_tick(self):
        chance = random.Random(115)
        for _ in range(300):
            winds, pump = chance_winds(chance), chance.randint(0, 4)
            cap = least_cap(draught_of_winds(winds), pump)[0]
            self.assertNotIn(None, counted(winds, pump, cap))
            if cap > 0:
                self.assertIn(None, counted(winds, pump, cap - 1))

    def test_long_ones(self):
        chance, caps = random.Random(116), []
        for _ in range(300):
            draught = long_draught(chance, 10 ** chance.randint(1, 15))
            pump = chance.randint(0, max([wind for _, _, wind in draught] + [1]))
            caps.append(self.check(draught, pump))
        self.assertGreater(len(set(caps)), 150)


if __name__ == "__main__":
    unittest.main()
