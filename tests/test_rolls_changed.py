"""Point [17]: parts of rolls, rolls joined, laid over each other and slowed, and a roll's changes."""

import inspect
import random
import unittest

from sample_organs import NO_WHOLE, chance_columns, roll_of_columns
from windchest.errors import NoRoll, OrganError
from windchest.rolls import changes_of, end_to_end, is_roll, laid_over, open_at, roll_of, roll_part, slowed_by

MOST_TICKS = 10 ** 12
# Holes of one track, as many as may be: one in every second tick, and the same one tick later.
FULL = (800, [(0, 2 * number, 2 * number + 1) for number in range(400)])
LATER = (801, [(0, 2 * number + 1, 2 * number + 2) for number in range(400)])


def chance_pairs(seed, count):
    """Pairs of columns and their roll."""
    chance = random.Random(seed)
    found = [chance_columns(chance, chance.randrange(9), chance.randint(1, 4)) for _ in range(count)]
    return [(columns, roll_of_columns(columns)) for columns in found]


class RollTest(unittest.TestCase):
    def check_refused(self, function, *parts):
        with self.subTest(repr(parts)[-80:]):
            with self.assertRaises(OrganError) as caught:
                function(*parts)
            self.assertIs(type(caught.exception), NoRoll)

    def check_roll(self, told, columns):
        """The roll is just that of the columns, and has open what they have, tick by tick."""
        self.assertEqual(told, roll_of_columns(columns))
        self.assertTrue(is_roll(told))
        self.assertEqual([open_at(told, tick) for tick in range(len(columns))], [sorted(each) for each in columns])

    def check_own(self, function, *parts):
        """What is handed in stays, and what is told is new each time."""
        kept = [(part[0], list(part[1])) if isinstance(part, tuple) else part for part in parts]
        one, other = function(*parts), function(*parts)
        one[1].append("more")
        self.assertEqual(list(parts), kept)
        self.assertNotIn("more", other[1])
        self.assertEqual(function(*parts), other)
        for part in parts:
            if isinstance(part, tuple):
                part[1].append("less")
        self.assertNotIn("less", other[1])
        for part in parts:
            if isinstance(part, tuple):
                part[1].remove("less")


class TestArguments(unittest.TestCase):
    def test_names_of_arguments(self):
        for function, wanted in ((roll_part, ["roll", "first", "behind"]), (end_to_end, ["one", "other"]),
                                 (laid_over, ["one", "other"]), (slowed_by, ["roll", "times"]), (changes_of, ["roll"])):
            with self.subTest(function.__name__):
                self.assertEqual(list(inspect.signature(function).parameters), wanted)


class TestPart(RollTest):
    ROLL = (10, [(3, 0, 4), (1, 2, 10), (3, 6, 7)])

    def test_every_part(self):
        for wanted, first, behind in (
            ((10, [(3, 0, 4), (1, 2, 10), (3, 6, 7)]), 0, 10), ((3, [(1, 0, 3), (3, 0, 1)]), 3, 6), ((0, []), 0, 0),
            ((0, []), 5, 5), ((0, []), 10, 10), ((1, [(1, 0, 1)]), 9, 10), ((2, [(3, 0, 2)]), 0, 2),
            ((3, [(1, 0, 3), (3, 0, 2)]), 2, 5), ((3, [(1, 0, 3), (3, 1, 2)]), 5, 8), ((2, [(1, 0, 2)]), 7, 9),
        ):
            with self.subTest(first=first, behind=behind):
                self.assertEqual(roll_part(self.ROLL, first, behind), wanted)

    def test_a_hole_that_ends_or_begins_at_an_edge_is_left_out(self):
        self.assertEqual(roll_part((9, [(0, 1, 3), (1, 5, 7)]), 3, 5), (2, []))

    def test_a_cut_hole_comes_in_the_order_of_its_track(self):
        self.assertEqual(roll_part((9, [(5, 0, 9), (2, 1, 9), (7, 2, 9)]), 3, 9),
                         (6, [(2, 0, 6), (5, 0, 6), (7, 0, 6)]))

    def test_tick_by_tick_for_many_rolls(self):
        for columns, roll in chance_pairs(70, 60):
            for first in range(len(columns) + 1):
                for behind in range(first, len(columns) + 1):
                    self.check_roll(roll_part(roll, first, behind), columns[first:behind])

    def test_the_most_holes_and_ticks(self):
        self.assertEqual(roll_part(FULL, 0, 800), FULL)
        self.assertEqual(roll_part(FULL, 799, 800), (1, []))
        great = (MOST_TICKS, [(0, 0, MOST_TICKS)])
        self.assertEqual(roll_part(great, 0, MOST_TICKS), great)
        self.assertEqual(roll_part(great, MOST_TICKS - 1, MOST_TICKS), (1, [(0, 0, 1)]))
        self.assertEqual(roll_part(great, MOST_TICKS, MOST_TICKS), (0, []))

    def test_ticks_that_are_none(self):
        for first, behind in ((-1, 5), (-1, -1), (-5, 10), (0, 11), (10, 11), (11, 11), (6, 5), (10, 0), (1, 0),
                              (5, -1), (0, 10 ** 30), (-10 ** 30, 5)):
            self.check_refused(roll_part, self.ROLL, first, behind)
        self.check_refused(roll_part, (0, []), 0, 1)
        self.check_refused(roll_part, (0, []), -1, 0)
        self.assertEqual(roll_part((0, []), 0, 0), (0, []))

    def test_things_of_other_kinds(self):
        for thing in NO_WHOLE:
            self.check_refused(roll_part, self.ROLL, thing, 5)
            self.check_refused(roll_part, self.ROLL, 0, thing)
            self.check_refused(roll_part, self.ROLL, thing, thing)
            self.check_refused(roll_part, self.ROLL, thing, 11)
            self.check_refused(roll_part, self.ROLL, -1, thing)

    def test_own(self):
        self.check_own(roll_part, (10, [(3, 0, 4), (1, 2, 10)]), 0, 10)
        self.check_own(roll_part, (10, [(3, 0, 4), (1, 2, 10)]), 3, 6)


class TestEndToEnd(RollTest):
    def test_joined(self):
        self.assertEqual(end_to_end((5, [(1, 0, 2)]), (4, [(1, 0, 4), (0, 1, 2)])),
                         (9, [(1, 0, 2), (1, 5, 9), (0, 6, 7)]))
        self.assertEqual(end_to_end((4, [(1, 0, 4), (0, 1, 2)]), (5, [(1, 0, 2)])), (9, [(1, 0, 6), (0, 1, 2)]))

    def test_holes_that_touch_at_the_seam(self):
        one, other = (3, [(0, 1, 3), (2, 2, 3)]), (3, [(0, 0, 1), (1, 0, 3), (2, 0, 3)])
        self.assertEqual(end_to_end(one, other), (6, [(0, 1, 4), (2, 2, 6), (1, 3, 6)]))

    def test_with_an_empty_one(self):
        roll = (4, [(1, 0, 4), (0, 1, 2)])
        self.assertEqual(end_to_end(roll, (0, [])), roll)
        self.assertEqual(end_to_end((0, []), roll), roll)
        self.assertEqual(end_to_end((0, []), (0, [])), (0, []))
        self.assertEqual(end_to_end((2, []), roll), (6, [(1, 2, 6), (0, 3, 4)]))
        self.assertEqual(end_to_end(roll, (2, [])), (6, [(1, 0, 4), (0, 1, 2)]))

    def test_with_itself(self):
        roll = (3, [(0, 0, 3), (1, 1, 2)])
        self.assertEqual(end_to_end(roll, roll), (6, [(0, 0, 6), (1, 1, 2), (1, 4, 5)]))

    def test_tick_by_tick_for_many_rolls(self):
        pairs = chance_pairs(71, 40)
        for columns, roll in pairs:
            for others, other in pairs[::3]:
                self.check_roll(end_to_end(roll, other), columns + others)

    def test_parts_joined_again(self):
        for columns, roll in chance_pairs(72, 60):
            for tick in range(len(columns) + 1):
                self.assertEqual(end_to_end(roll_part(roll, 0, tick), roll_part(roll, tick, len(columns))), roll)

    def test_just_as_many_holes_and_one_more(self):
        one = (400, [(0, 2 * number, 2 * number + 1) for number in range(200)])
        self.assertEqual(end_to_end(one, one), FULL)
        self.check_refused(end_to_end, one, (401, one[1] + [(0, 400, 401)]))
        self.check_refused(end_to_end, FULL, (1, [(0, 0, 1)]))
        self.check_refused(end_to_end, (1, [(0, 0, 1)]), LATER)
        self.check_refused(end_to_end, FULL, FULL)
        self.assertEqual(end_to_end(FULL, (1, [])), (801, FULL[1]))

    def test_many_holes_that_the_seam_joins(self):
        """401 holes handed in, of which two touch."""
        self.assertEqual(end_to_end((1, [(0, 0, 1)]), FULL), (801, [(0, 0, 2)] + LATER[1][1:]))

    def test_just_as_many_ticks_and_one_more(self):
        half = MOST_TICKS // 2
        self.assertEqual(end_to_end((half, [(0, 0, half)]), (half, [(0, 0, half)])), (MOST_TICKS, [(0, 0, MOST_TICKS)]))
        self.assertEqual(end_to_end((MOST_TICKS, []), (0, [])), (MOST_TICKS, []))
        self.check_refused(end_to_end, (half, []), (half + 1, []))
        self.check_refused(end_to_end, (MOST_TICKS, []), (1, []))
        self.check_refused(end_to_end, (1, []), (MOST_TICKS, []))
        self.check_refused(end_to_end, (MOST_TICKS, []), (MOST_TICKS, []))

    def test_own(self):
        self.check_own(end_to_end, (3, [(0, 0, 3), (1, 1, 2)]), (3, [(0, 0, 3)]))
        self.check_own(end_to_end, (3, [(0, 0, 3), (1, 1, 2)]), (0, []))
        self.check_own(end_to_end, (0, []), (3, [(0, 0, 3), (1, 1, 2)]))


class TestLaidOver(RollTest):
    def test_laid_over(self):
        self.assertEqual(laid_over((5, [(1, 0, 2), (0, 4, 5)]), (9, [(2, 0, 1), (1, 2, 4), (0, 8, 9)])),
                         (9, [(1, 0, 4), (2, 0, 1), (0, 4, 5), (0, 8, 9)]))

    def test_the_greater_length(self):
        for one, other in ((0, 0), (0, 5), (5, 0), (3, 7), (7, 3), (7, 7), (MOST_TICKS, 0), (1, MOST_TICKS)):
            self.assertEqual(laid_over((one, []), (other, [])), (max(one, other), []))

    def test_with_itself(self):
        for _, roll in chance_pairs(73, 30):
            self.assertEqual(laid_over(roll, roll), roll)
            self.assertEqual(laid_over(roll, (0, [])), roll)
            self.assertEqual(laid_over((0, []), roll), roll)

    def test_tick_by_tick_for_many_rolls(self):
        pairs = chance_pairs(74, 40)
        for columns, roll in pairs:
            for others, other in pairs[::3]:
                length = max(len(columns), len(others))
                filled = [each + [set()] * (length - len(each)) for each in (columns, others)]
                self.check_roll(laid_over(roll, other), [one | two for one, two in zip(*filled)])
                self.assertEqual(laid_over(roll, other), laid_over(other, roll))

    def test_just_as_many_holes_and_one_more(self):
        one = (800, FULL[1][:200])
        other = (800, FULL[1][200:])
        self.assertEqual(laid_over(one, other), FULL)
        self.assertEqual(laid_over(other, one), FULL)
        self.assertEqual(laid_over(FULL, other), FULL)
        self.check_refused(laid_over, FULL, (800, [(1, 0, 1)]))
        self.check_refused(laid_over, (1, [(1, 0, 1)]), FULL)
        self.check_refused(laid_over, one, (800, other[1][:1] + [(1, 500, 501)] + other[1][1:]))

    def test_many_holes_that_come_to_few(self):
        gaps = (800, [(0, 2 * number + 1, 2 * number + 2) for number in range(400)])
        self.assertEqual(laid_over(FULL, gaps), (800, [(0, 0, 800)]))
        self.assertEqual(laid_over(FULL, (2, [(0, 1, 2)])), (800, [(0, 0, 3)] + FULL[1][2:]))

    def test_own(self):
        self.check_own(laid_over, (3, [(0, 0, 3), (1, 1, 2)]), (3, [(0, 0, 3)]))
        self.check_own(laid_over, (3, [(0, 0, 3), (1, 1, 2)]), (0, []))
        self.check_own(laid_over, (0, []), (3, [(0, 0, 3), (1, 1, 2)]))


class TestSlowedBy(RollTest):
    def test_slowed(self):
        roll = (5, [(3, 0, 2), (1, 2, 5), (3, 3, 4)])
        self.assertEqual(slowed_by(roll, 1), roll)
        self.assertEqual(slowed_by(roll, 3), (15, [(3, 0, 6), (1, 6, 15), (3, 9, 12)]))
        self.assertEqual(slowed_by(roll, 1000), (5000, [(3, 0, 2000), (1, 2000, 5000), (3, 3000, 4000)]))
        self.assertEqual(slowed_by((0, []), 1000), (0, []))

    def test_tick_by_tick_for_many_rolls(self):
        for columns, roll in chance_pairs(75, 80):
            for times in (1, 2, 3, 7):
                self.check_roll(slowed_by(roll, times), [column for column in columns for _ in range(times)])

    def test_what_is_no_times(self):
        for thing in NO_WHOLE + (0, -1, -1000, 1001, 1002, 10 ** 30, -10 ** 30):
            self.check_refused(slowed_by, (5, [(3, 0, 2)]), thing)
            self.check_refused(slowed_by, (0, []), thing)

    def test_just_as_many_ticks_and_one_more(self):
        self.assertEqual(slowed_by((MOST_TICKS, [(0, 1, 3)]), 1), (MOST_TICKS, [(0, 1, 3)]))
        self.assertEqual(slowed_by((10 ** 9, [(0, 0, 10 ** 9)]), 1000), (MOST_TICKS, [(0, 0, MOST_TICKS)]))
        self.assertEqual(slowed_by((MOST_TICKS // 2, []), 2), (MOST_TICKS, []))
        self.check_refused(slowed_by, (10 ** 9 + 1, []), 1000)
        self.check_refused(slowed_by, (MOST_TICKS, []), 2)
        self.check_refused(slowed_by, (MOST_TICKS // 2 + 1, []), 2)
        self.assertEqual(slowed_by((MOST_TICKS // 3, []), 3), (MOST_TICKS - 1, []))
        self.check_refused(slowed_by, (MOST_TICKS // 3 + 1, []), 3)

    def test_the_most_holes(self):
        self.assertEqual(slowed_by(FULL, 2), (1600, [(0, 2 * first, 2 * behind) for _, first, behind in FULL[1]]))

    def test_own(self):
        self.check_own(slowed_by, (3, [(0, 0, 3), (1, 1, 2)]), 1)
        self.check_own(slowed_by, (3, [(0, 0, 3), (1, 1, 2)]), 5)


class TestChanges(RollTest):
    def test_nothing(self):
        for length in (0, 1, 10, MOST_TICKS):
            self.assertEqual(changes_of((length, [])), [])

    def test_tick_nought_and_the_length(self):
        self.assertEqual(changes_of((5, [(2, 0, 5), (7, 0, 3)])), [(0, [2, 7], []), (3, [], [7]), (5, [], [2])])
        self.assertEqual(changes_of((1, [(0, 0, 1)])), [(0, [0], []), (1, [], [0])])
        self.assertEqual(changes_of((MOST_TICKS, [(0, 0, MOST_TICKS)])), [(0, [0], []), (MOST_TICKS, [], [0])])

    def test_one_closes_as_another_opens(self):
        self.assertEqual(changes_of((9, [(2, 1, 4), (1, 4, 6), (2, 6, 9)])),
                         [(1, [2], []), (4, [1], [2]), (6, [2], [1]), (9, [], [2])])

    def test_rising_tracks(self):
        roll = (9, [(9, 0, 5), (5, 1, 5), (7, 2, 5), (0, 5, 6), (8, 5, 6)])
        self.assertEqual(changes_of(roll), [(0, [9], []), (1, [5], []), (2, [7], []), (5, [0, 8], [5, 7, 9]),
                                            (6, [], [0, 8])])

    def test_kinds(self):
        told = changes_of((2, [(0, 0, 1)]))
        self.assertEqual([type(told), type(told[0]), type(told[0][1]), type(told[0][2])], [list, tuple, list, list])

    def test_tick_by_tick_for_many_rolls(self):
        for columns, roll in chance_pairs(76, 300):
            wanted = []
            for tick, (ahead, now) in enumerate(zip([set()] + columns, columns + [set()])):
                if ahead != now:
                    wanted.append((tick, sorted(now - ahead), sorted(ahead - now)))
            self.assertEqual(changes_of(roll), wanted)

    def test_the_most_holes(self):
        wanted = [(tick, [0], []) if tick % 2 == 0 else (tick, [], [0]) for tick in range(800)]
        self.assertEqual(changes_of(FULL), wanted)

    def test_changes_put_together_are_what_is_open(self):
        for columns, roll in chance_pairs(77, 60):
            now, changes = set(), {tick: (opened, closed) for tick, opened, closed in changes_of(roll)}
            for tick in range(len(columns) + 1):
                opened, closed = changes.get(tick, ([], []))
                now = now - set(closed) | set(opened)
                self.assertEqual(sorted(now), open_at(roll, tick))

    def test_own(self):
        roll = (5, [(2, 0, 5), (7, 0, 3)])
        told = changes_of(roll)
        told[0][1].append(9)
        told[1][2].clear()
        told.append(None)
        self.assertEqual(changes_of(roll), [(0, [2, 7], []), (3, [], [7]), (5, [], [2])])
        self.assertEqual(roll, (5, [(2, 0, 5), (7, 0, 3)]))


class TestTogether(RollTest):
    def test_rolls_of_what_was_made(self):
        """Whatever is made of rolls is made of again, and stays what its spans have open."""
        for columns, roll in chance_pairs(78, 60):
            twice = slowed_by(laid_over(roll, roll_of(len(columns), roll[1])), 2)
            self.check_roll(twice, [column for column in columns for _ in range(2)])
            self.check_roll(end_to_end(twice, roll_part(roll, 0, len(columns))),
                            [column for column in columns for _ in range(2)] + columns)


if __name__ == "__main__":
    unittest.main()
