"""Points [16] and [17]: what is a roll, rolls made of spans, and what is open at a tick."""

import inspect
import random
import unittest
from unittest import mock

from sample_organs import NO_WHOLE, chance_columns, columns_of_holes, roll_of_columns
from windchest.errors import NoRoll, OrganError
from windchest.rolls import is_roll, open_at, roll_of

MOST_TICKS = 10 ** 12
NO_LENGTHS = NO_WHOLE + (-1, -2, -MOST_TICKS, MOST_TICKS + 1, MOST_TICKS + 2, 10 ** 30, "10", [10], (10, []))
# None of these is a hole within 10 ticks.
NO_HOLES = (
    None, True, 0, 5, "", "abc", "012", b"abc", {}, {0: 1, 1: 2, 2: 3}, {0, 1, 2}, [], [0, 1, 2], object(), mock.ANY,
    (), (0,), (0, 1), (0, 1, 2, 3), (0, 1, 2, None), ((0, 1, 2),), [(0, 1, 2)], range(3), iter((0, 1, 2)),
    (-1, 1, 2), (1200, 1, 2), (1201, 1, 2), (10 ** 30, 1, 2), (0, -1, 2), (0, -2, -1), (0, 2, 2), (0, 0, 0),
    (0, 10, 10), (0, 3, 2), (0, 2, 0), (0, 1, 11), (0, 10, 11), (0, 11, 12), (0, 1, 10 ** 30), (0, 2, -1),
)


def many_holes(count):
    """Holes of one tick each, so many of them, in a roll's order; five tracks, and an odd tick between."""
    return [(number % 5, number // 5 * 2, number // 5 * 2 + 1) for number in range(count)]


class TestArguments(unittest.TestCase):
    def test_names_of_arguments(self):
        for function, wanted in ((is_roll, ["thing"]), (roll_of, ["length", "spans"]), (open_at, ["roll", "tick"])):
            with self.subTest(function.__name__):
                self.assertEqual(list(inspect.signature(function).parameters), wanted)


class TestIsRoll(unittest.TestCase):
    def check(self, wanted, *things):
        for thing in things:
            with self.subTest(repr(thing)[:80]):
                self.assertIs(is_roll(thing), wanted)

    def test_lengths(self):
        self.check(True, *[(length, []) for length in (0, 1, 2, 10, MOST_TICKS - 1, MOST_TICKS)])
        self.check(False, *[(length, []) for length in NO_LENGTHS])

    def test_counts_of_holes(self):
        for count in (0, 1, 399, 400):
            self.check(True, (1000, many_holes(count)))
        for count in (401, 402, 800, 3000):
            self.check(False, (10000, many_holes(count)))

    def test_tracks(self):
        self.check(True, *[(10, [(track, 1, 2)]) for track in (0, 1, 599, 1198, 1199)])
        self.check(False, *[(10, [(track, 1, 2)]) for track in (-1, -2, 1200, 1201, 10 ** 30)])

    def test_first_and_behind(self):
        self.check(True, (10, [(0, 0, 1)]), (10, [(0, 0, 10)]), (10, [(0, 9, 10)]), (10, [(0, 4, 6)]),
                   (MOST_TICKS, [(0, MOST_TICKS - 1, MOST_TICKS)]), (1, [(0, 0, 1), (1199, 0, 1)]))
        self.check(False, (10, [(0, 4, 4)]), (10, [(0, 5, 4)]), (10, [(0, 0, 0)]), (10, [(0, 10, 10)]),
                   (10, [(0, -1, 4)]), (10, [(0, 9, 11)]), (10, [(0, 10, 11)]), (10, [(0, 0, 11)]), (0, [(0, 0, 1)]),
                   (0, [(0, 0, 0)]), (MOST_TICKS, [(0, 0, MOST_TICKS + 1)]))

    def test_what_is_no_hole(self):
        self.check(False, *[(10, [thing]) for thing in NO_HOLES])
        self.check(False, *[(10, [(0, 0, 1), thing]) for thing in NO_HOLES])
        self.check(False, *[(10, [thing, (0, 8, 9)]) for thing in NO_HOLES])

    def test_parts_of_a_hole_of_other_kinds(self):
        for thing in NO_WHOLE:
            self.check(False, (10, [(thing, 1, 2)]), (10, [(0, thing, 2)]), (10, [(0, 1, thing)]))

    def test_order_by_first(self):
        self.check(True, (10, [(1, 0, 9), (0, 1, 2)]), (10, [(0, 0, 1), (0, 2, 3), (0, 4, 5)]),
                   (10, [(3, 0, 1), (2, 1, 2), (1, 2, 3), (0, 3, 4)]))
        self.check(False, (10, [(0, 1, 2), (1, 0, 9)]), (10, [(0, 2, 3), (0, 0, 1), (0, 4, 5)]),
                   (10, [(0, 0, 1), (0, 4, 5), (0, 2, 3)]), (10, [(0, 3, 4), (1, 2, 3)]))

    def test_order_by_track(self):
        self.check(True, (10, [(0, 1, 2), (1, 1, 2)]), (10, [(0, 1, 9), (1, 1, 2)]), (10, [(0, 1, 2), (1, 1, 9)]),
                   (10, [(7, 0, 1), (0, 1, 2), (5, 1, 2), (6, 1, 4)]))
        self.check(False, (10, [(1, 1, 2), (0, 1, 2)]), (10, [(1, 1, 9), (0, 1, 2)]), (10, [(1, 1, 2), (0, 1, 9)]),
                   (10, [(7, 0, 1), (0, 1, 2), (6, 1, 4), (5, 1, 2)]))

    def test_two_of_one_track(self):
        self.check(True, (10, [(4, 0, 3), (4, 4, 6)]), (10, [(4, 0, 3), (5, 1, 9), (4, 4, 6)]),
                   (10, [(4, 0, 3), (5, 3, 6), (4, 6, 7)]))
        for first, behind in ((3, 6), (2, 6), (1, 2), (1, 3), (0, 3), (0, 6), (0, 1)):
            self.check(False, (10, [(4, 0, 3), (4, first, behind)]),
                       (10, [(4, 0, 3), (5, first, 9), (4, first, behind)]))
        self.check(False, (10, [(4, 0, 9), (4, 1, 2), (4, 3, 4)]), (10, [(4, 0, 9), (5, 2, 3), (4, 5, 6)]))

    def test_touching_holes_of_two_tracks(self):
        self.check(True, (10, [(4, 0, 3), (5, 3, 6)]), (10, [(5, 0, 3), (4, 3, 6)]), (10, [(4, 0, 3), (5, 0, 3)]))

    def test_what_is_no_tuple_of_two(self):
        self.check(False, None, True, False, 0, 10, "", "ab", b"ab", [], [10, []], (), (10,), (10, [], []),
                   (10, [], None), {}, {10: []}, {0: 10, 1: []}, object(), mock.ANY, iter((10, [])), range(2),
                   ((10, []),), [(10, [])])

    def test_holes_that_are_no_list(self):
        self.check(False, *[(10, thing) for thing in (None, True, 0, "", "ab", (), ((0, 1, 2),), {}, {(0, 1, 2)},
                                                      {(0, 1, 2): 0}, object(), mock.ANY, iter([(0, 1, 2)]), range(0))])
        self.check(False, ([], 10), ([(0, 1, 2)], 10))

    def test_what_is_asked_stays(self):
        for holes in ([(1, 1, 2), (0, 1, 2)], [(0, 1, 2), (1, 1, 2)], [(0, 1, 2), (0, 2, 3)]):
            kept = list(holes)
            is_roll((10, holes))
            self.assertEqual(holes, kept)

    def test_many_small_rolls_are_rolls(self):
        chance = random.Random(60)
        for _ in range(300):
            roll = roll_of_columns(chance_columns(chance, chance.randrange(12), chance.randint(1, 4)))
            self.check(True, roll)
            length, holes = roll
            if len(holes) > 1:
                turned = list(holes)
                while turned == holes:
                    chance.shuffle(turned)
                self.check(False, (length, turned))
            for place, (track, first, behind) in enumerate(holes):
                if behind - first > 1:
                    cut = holes[:place] + [(track, first, first + 1)] + holes[place + 1:] + [(track, first + 1, behind)]
                    self.check(False, (length, sorted(cut, key=lambda hole: (hole[1], hole[0]))))


class TestRollOf(unittest.TestCase):
    def check_refused(self, length, spans):
        with self.subTest(f"{length!r} {spans!r}"[:100]):
            with self.assertRaises(OrganError) as caught:
                roll_of(length, spans)
            self.assertIs(type(caught.exception), NoRoll)

    def test_no_spans(self):
        for length in (0, 1, 10, MOST_TICKS):
            self.assertEqual(roll_of(length, []), (length, []))

    def test_kinds(self):
        told = roll_of(10, [(0, 1, 2)])
        self.assertEqual((type(told), type(told[1]), type(told[1][0])), (tuple, list, tuple))

    def test_holes_stay_holes(self):
        for holes in ([(0, 1, 2)], [(1199, 0, 10)], [(0, 1, 2), (0, 3, 4)], [(1, 0, 1), (0, 1, 2), (2, 1, 2)]):
            self.assertEqual(roll_of(10, holes), (10, holes))

    def test_any_order(self):
        self.assertEqual(roll_of(10, [(5, 7, 8), (1, 2, 3), (0, 2, 3), (3, 0, 9), (1, 0, 1)]),
                         (10, [(1, 0, 1), (3, 0, 9), (0, 2, 3), (1, 2, 3), (5, 7, 8)]))

    def test_overlapping_touching_and_told_twice(self):
        for spans in (
            [(4, 1, 3), (4, 3, 6)], [(4, 3, 6), (4, 1, 3)], [(4, 1, 4), (4, 3, 6)], [(4, 1, 6), (4, 2, 3)],
            [(4, 2, 3), (4, 1, 6)], [(4, 1, 6), (4, 1, 2)], [(4, 5, 6), (4, 1, 6)], [(4, 1, 6), (4, 1, 6)],
            [(4, 1, 6)] * 5, [(4, 1, 2), (4, 3, 4), (4, 2, 3), (4, 4, 6)], [(4, 1, 6), (4, 2, 3), (4, 5, 6)],
        ):
            with self.subTest(spans):
                self.assertEqual(roll_of(10, spans), (10, [(4, 1, 6)]))

    def test_a_tick_between(self):
        self.assertEqual(roll_of(10, [(4, 4, 6), (4, 1, 3)]), (10, [(4, 1, 3), (4, 4, 6)]))

    def test_a_long_span_over_short_ones(self):
        self.assertEqual(roll_of(10, [(4, 0, 8), (4, 1, 2), (4, 7, 9), (4, 3, 4)]), (10, [(4, 0, 9)]))
        self.assertEqual(roll_of(10, [(4, 0, 8), (4, 1, 2), (4, 9, 10), (4, 3, 4)]), (10, [(4, 0, 8), (4, 9, 10)]))

    def test_other_tracks_do_not_join(self):
        self.assertEqual(roll_of(10, [(4, 1, 3), (5, 3, 6), (3, 2, 4)]), (10, [(4, 1, 3), (3, 2, 4), (5, 3, 6)]))

    def test_tick_by_tick_for_many_lists(self):
        chance = random.Random(61)
        for _ in range(400):
            length, tracks = chance.randint(1, 14), chance.randint(1, 4)
            spans = []
            for _ in range(chance.randrange(12)):
                first = chance.randrange(length)
                spans.append((chance.randrange(tracks), first, chance.randint(first + 1, length)))
            kept = list(spans)
            roll = roll_of(length, spans)
            columns = columns_of_holes(length, spans)
            self.assertEqual(roll, roll_of_columns(columns))
            self.assertTrue(is_roll(roll))
            self.assertEqual([set(open_at(roll, tick)) for tick in range(length)], columns)
            self.assertEqual(spans, kept)
            chance.shuffle(spans)
            self.assertEqual(roll_of(length, spans), roll)

    def test_great_ticks(self):
        edge = MOST_TICKS - 1
        self.assertEqual(roll_of(MOST_TICKS, [(0, edge, MOST_TICKS), (0, 0, edge)]), (MOST_TICKS, [(0, 0, MOST_TICKS)]))

    def test_just_as_many_holes_and_one_more(self):
        holes = many_holes(400)
        self.assertEqual(roll_of(1000, holes), (1000, holes))
        self.assertEqual(roll_of(1000, list(reversed(holes))), (1000, holes))
        self.check_refused(1000, many_holes(401))
        self.check_refused(1000, list(reversed(many_holes(401))))
        self.check_refused(1000, many_holes(2000))

    def test_more_spans_that_come_to_few_holes(self):
        self.assertEqual(roll_of(2000, [(3, tick, tick + 1) for tick in range(2000)]), (2000, [(3, 0, 2000)]))
        self.assertEqual(roll_of(2000, [(3, 0, 1)] * 401), (2000, [(3, 0, 1)]))
        holes = many_holes(400)
        self.assertEqual(roll_of(1000, holes * 5), (1000, holes))
        self.assertEqual(roll_of(1000, holes + holes[:1]), (1000, holes))

    def test_wrong_lengths(self):
        for length in NO_LENGTHS:
            self.check_refused(length, [])
            self.check_refused(length, [(0, 0, 1)])
            self.check_refused(length, None)

    def test_wrong_spans(self):
        for thing in NO_HOLES:
            self.check_refused(10, [thing])
            self.check_refused(10, [(0, 0, 1), thing])
            self.check_refused(10, [thing, (0, 0, 1)])
            self.check_refused(10, [(0, 0, 10), thing, (5, 0, 10)])

    def test_parts_of_a_span_of_other_kinds(self):
        for thing in NO_WHOLE:
            for span in ((thing, 1, 2), (0, thing, 2), (0, 1, thing)):
                self.check_refused(10, [span])

    def test_a_span_beyond_the_length(self):
        for length, span in ((0, (0, 0, 1)), (5, (0, 4, 6)), (5, (0, 5, 6)), (MOST_TICKS, (0, 0, MOST_TICKS + 1))):
            self.check_refused(length, [span])
        self.assertEqual(roll_of(5, [(0, 4, 5)]), (5, [(0, 4, 5)]))

    def test_what_is_no_list(self):
        for thing in (None, True, 0, 5, "", "abc", (), ((0, 1, 2),), {}, {(0, 1, 2): 0}, {(0, 1, 2)}, b"", object(),
                      mock.ANY, iter([(0, 1, 2)]), range(0)):
            self.check_refused(10, thing)

    def test_what_is_handed_in_stays_and_what_is_told_is_new(self):
        for spans in ([(1, 1, 2), (0, 1, 2), (0, 2, 3)], [(0, 1, 2)], []):
            kept = list(spans)
            one, other = roll_of(10, spans), roll_of(10, spans)
            self.assertEqual(spans, kept)
            one[1].append("more")
            self.assertEqual(spans, kept)
            self.assertNotIn("more", other[1])
            spans.append((9, 9, 10))
            self.assertEqual(roll_of(10, kept), other)

    def test_what_is_refused_stays(self):
        spans = [(1, 1, 2), None, (0, 1, 2)]
        self.check_refused(10, spans)
        self.assertEqual(spans, [(1, 1, 2), None, (0, 1, 2)])


class TestOpenAt(unittest.TestCase):
    ROLL = (20, [(7, 0, 3), (9, 0, 20), (8, 2, 5), (3, 3, 4), (7, 5, 20), (1199, 19, 20)])

    def test_each_edge(self):
        for tick, wanted in ((0, [7, 9]), (1, [7, 9]), (2, [7, 8, 9]), (3, [3, 8, 9]), (4, [8, 9]), (5, [7, 9]),
                             (18, [7, 9]), (19, [7, 9, 1199])):
            with self.subTest(tick=tick):
                told = open_at(self.ROLL, tick)
                self.assertEqual(told, wanted)
                self.assertIs(type(told), list)

    def test_below_nought_and_beyond(self):
        for tick in (-1, -2, -20, -10 ** 30, 20, 21, 100, MOST_TICKS, 10 ** 30):
            self.assertEqual(open_at(self.ROLL, tick), [])

    def test_a_roll_without_ticks_or_holes(self):
        for roll in ((0, []), (5, [])):
            for tick in (-1, 0, 1, 5):
                self.assertEqual(open_at(roll, tick), [])

    def test_rising(self):
        roll = (5, [(1, 0, 4), (5, 0, 4), (0, 1, 4), (9, 1, 4), (3, 2, 4)])
        self.assertEqual(open_at(roll, 3), [0, 1, 3, 5, 9])

    def test_great_ticks(self):
        roll = (MOST_TICKS, [(0, MOST_TICKS - 1, MOST_TICKS)])
        self.assertEqual([open_at(roll, MOST_TICKS + step) for step in (-2, -1, 0)], [[], [0], []])

    def test_tick_by_tick_for_many_rolls(self):
        chance = random.Random(62)
        for _ in range(100):
            columns = chance_columns(chance, chance.randrange(12), 4)
            roll = roll_of_columns(columns)
            self.assertEqual([open_at(roll, tick) for tick in range(len(columns))], [sorted(each) for each in columns])

    def test_what_is_told_is_new_and_the_roll_stays(self):
        roll = (5, [(1, 0, 4), (0, 1, 4)])
        told = open_at(roll, 2)
        told.append(5)
        self.assertEqual(open_at(roll, 2), [0, 1])
        self.assertEqual(roll, (5, [(1, 0, 4), (0, 1, 4)]))


if __name__ == "__main__":
    unittest.main()
