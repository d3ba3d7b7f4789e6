"""Point [6], what is refused with NoOrgan, and its value `at`."""

import unittest
from unittest import mock

from sample_organs import EXAMPLE, MIXED, NOT_LISTS, most_rows, nth_name
from windchest.errors import NoOrgan, OrganError
from windchest.organ import Organ

# Two of each kind of thing that has a name, so that each wrong name can be one of a thing that is there.
AHEAD = [
    ("board", "great", 5), ("board", "swell", 3), ("rank", "flute", 7, 2), ("rank", "reed", 4, 0),
    ("stop", "open", "great"), ("stop", "horn", "swell"), ("coupler", "over", "great", "swell", 1),
    ("coupler", "under", "swell", "swell", -1), ("mute", "hush", "great"), ("mute", "still", "swell"),
    ("step", "open"), ("stop", "last", "great"),
]
NAMES = {
    "board": ("great", "swell"), "rank": ("flute", "reed"), "stop": ("open", "horn", "last"),
    "coupler": ("over", "under"), "mute": ("hush", "still"),
}
BEHIND = [("board", "choir", 2), ("rank", "bass", 1, 1), ("stop", "deep", "choir"), ("line", "bass", 0, 0, 1)]

# A good row for each kind, and what each of its parts must be: a new name, a name of a kind, or bounds.
KINDS = (
    (("board", "pedal", 5), ("new", (1, 61))),
    (("rank", "viol", 5, 7), ("new", (1, 97), (0, 10 ** 9))),
    (("stop", "sharp", "great"), ("new", "board")),
    (("line", "flute", 5, 1, 3), ("rank", (-200, 200), (0, 3), (1, 4))),
    (("coupler", "cross", "great", "swell", 5), ("new", "board", "board", (-60, 60))),
    (("mute", "quiet", "swell"), ("new", "board")),
    (("step", "open"), ("stop",)),
    (("step", "horn", "open"), ("stop", "stop")),
)

NO_NAMES = (
    "", "Open", "OPEN", "open ", " open", "op en", "open\n", "open;", "open1", "a-b", "abcdefghi", "z" * 9,
    None, True, False, 0, 1, 5, -1, 1.0, b"open", [], ["open"], (), ("open",), {}, {"open": 1}, {"open"},
    mock.ANY,
)
NO_NUMBERS = (
    True, False, None, "", "0", "1", "2", "-1", "one", 1.0, 2.0, [], [1], (), (1,), {}, {1: 1}, b"1", mock.ANY,
)
NO_ROWS = (
    None, True, False, 0, 1, "", "board", "board great 5", [], ["board", "other", 5], {}, {"board": 5}, b"board",
    (), (None,), (0,), (True,), ("",), ("board",), ("stop",), ("step",), ((),), ([],), (["board"], "other", 5),
    (("board", "other", 5),), ({}, "other", 5), (None, "other", 5), (0, "other", 5), object(), 1.0, iter(()), mock.ANY,
)
WRONG_WORDS = (
    "", "Board", "BOARD", "boards", "boar", " board", "board ", "piston", "name", "new", "keys", "great", "steps",
    None, True, 0, 5, (), [], ["board"], ("board",), {}, b"board", 1.0, mock.ANY,
)


def refused_at(rows):
    try:
        Organ(rows)
    except NoOrgan as refusal:
        return refusal.at
    return "taken"


def wrong_things(part):
    if part == "new":
        return NO_NAMES + sum(NAMES.values(), ())
    if isinstance(part, str):
        others = sum([names for kind, names in NAMES.items() if kind != part], ())
        return NO_NAMES + others + ("nothing", part)
    low, high = part
    return NO_NUMBERS + (low - 1, high + 1, low - 100, high + 100, -10 ** 30, 10 ** 30, -10 ** 3999, 10 ** 3999)


class Refusing(unittest.TestCase):
    def check(self, ahead, wrong, behind=()):
        """The row is wrong behind these rows, whatever stands behind it: good rows or more wrong ones."""
        rows = list(ahead) + [wrong]
        for more in ([], list(behind), [None], BEHIND, [wrong]):
            handed = rows + more
            kept = list(handed)
            with self.subTest(str(wrong)[:60], behind=str(more)[:60]):
                at = refused_at(handed)
                self.assertEqual(at, len(ahead))
                self.assertIs(type(at), int)
                self.assertEqual(len(handed), len(kept))
                self.assertTrue(all(one is other for one, other in zip(handed, kept)))


class TestRefused(Refusing):
    def test_the_rows_here_are_good_so_far(self):
        self.assertEqual(refused_at(AHEAD), "taken")
        self.assertEqual(refused_at(AHEAD + BEHIND), "taken")
        for good, _ in KINDS:
            with self.subTest(good):
                self.assertEqual(refused_at(AHEAD + [good]), "taken")
                self.assertEqual(refused_at(AHEAD + [good] + BEHIND), "taken")

    def test_it_is_an_organ_error(self):
        self.assertRaises(OrganError, Organ, [])
        self.assertRaises(ValueError, Organ, [None])

    def test_another_word(self):
        for good, _ in KINDS:
            for word in WRONG_WORDS:
                self.check(AHEAD, (word,) + good[1:])

    def test_the_word_of_another_kind(self):
        shapes = {"board": "name number", "rank": "name number number", "line": "name number number number",
                  "stop": "name name", "mute": "name name", "coupler": "name name name number"}
        for good, _ in KINDS:
            for word, shape in shapes.items():
                if shape != shapes.get(good[0]):
                    self.check(AHEAD, (word,) + good[1:])

    def test_a_part_too_many(self):
        for good, parts in KINDS:
            for more in (None, 0, 1, True, "", "open", "great", "flute", "fresh", (), good[-1]):
                if not (good[0] == "step" and more == "open" and "open" not in good):
                    self.check(AHEAD, good + (more,))
            self.check(AHEAD, good + (2, 2))

    def test_a_part_too_few(self):
        for good, parts in KINDS:
            for count in range(len(good)):
                if not (good[0] == "step" and count > 1):
                    self.check(AHEAD, good[:count])
            if good[0] != "step":
                for place in range(len(good)):
                    self.check(AHEAD, good[:place] + good[place + 1:])

    def test_each_part_wrong(self):
        for good, parts in KINDS:
            for place, part in enumerate(parts, start=1):
                for thing in wrong_things(part):
                    self.check(AHEAD, good[:place] + (thing,) + good[place + 1:])

    def test_things_that_are_no_row(self):
        for thing in NO_ROWS:
            self.check(AHEAD, thing)
            self.check([], thing)
            self.check([("rank", "flute", 1, 1)], thing)

    def test_a_list_in_the_place_of_a_tuple(self):
        for good, _ in KINDS:
            self.check(AHEAD, list(good))
            self.check(AHEAD, " ".join(str(part) for part in good))
            self.check(AHEAD, (good,))


class TestNames(Refusing):
    def test_a_name_that_is_told_only_behind(self):
        self.check([], ("stop", "open", "great"), [("board", "great", 5)])
        self.check([("board", "great", 5)], ("stop", "open", "swell"), [("board", "swell", 5)])
        self.check([("board", "great", 5)], ("mute", "hush", "swell"), [("board", "swell", 5)])
        self.check([("board", "great", 5)], ("coupler", "over", "great", "swell", 0), [("board", "swell", 5)])
        self.check([("board", "great", 5)], ("coupler", "over", "swell", "great", 0), [("board", "swell", 5)])
        self.check([("board", "great", 5)], ("coupler", "over", "swell", "swell", 0), [("board", "swell", 5)])
        self.check(EXAMPLE[:3], ("line", "reed", 0, 0, 0), [("rank", "reed", 5, 0)])
        self.check(EXAMPLE, ("step", "horn"), [("stop", "horn", "great")])
        self.check(EXAMPLE, ("step", "open", "horn"), [("stop", "horn", "great")])

    def test_a_row_does_not_tell_the_names_that_it_asks_for(self):
        self.check([], ("stop", "open", "open"))
        self.check([("board", "great", 5)], ("mute", "hush", "hush"))
        self.check([("board", "great", 5)], ("coupler", "over", "over", "great", 0))
        self.check([("board", "great", 5)], ("coupler", "over", "great", "over", 0))

    def test_each_name_told_twice(self):
        fresh = {"board": (5,), "rank": (5, 5), "stop": ("great",), "coupler": ("great", "swell", 5),
                 "mute": ("great",)}
        for word, parts in fresh.items():
            for names in NAMES.values():
                for name in names:
                    self.check(AHEAD, (word, name) + parts)

    def test_the_very_same_row_twice(self):
        for row in AHEAD:
            if row[0] != "step":
                self.check(AHEAD, row)

    def test_a_name_told_by_the_row_right_ahead(self):
        self.check([("board", "great", 5)], ("board", "great", 5))
        self.check([("board", "great", 5)], ("board", "great", 6))
        self.check([("board", "great", 5)], ("rank", "great", 5, 5))
        self.check([("rank", "great", 5, 5)], ("board", "great", 5))


class TestLines(Refusing):
    def test_low_above_high_and_high_beyond_the_board(self):
        boards = [("board", "great", 5), ("board", "swell", 61), ("board", "tiny", 1), ("rank", "flute", 9, 0)]
        for name, keys in (("great", 5), ("swell", 61), ("tiny", 1)):
            ahead = boards + [("stop", "open", name)]
            self.assertEqual(refused_at(ahead + [("line", "flute", 0, keys - 1, keys - 1)]), "taken")
            self.assertEqual(refused_at(ahead + [("line", "flute", 0, 0, keys - 1)]), "taken")
            for low, high in ((0, keys), (keys, keys), (keys - 1, keys), (-1, 0), (-1, -1), (0, -1), (1, 0),
                              (keys - 1, keys - 2), (keys, keys - 1), (60, 5), (keys, 0), (61, 61), (0, 61)):
                self.check(ahead, ("line", "flute", 0, low, high))

    def test_no_stop_right_ahead(self):
        self.check([], ("line", "flute", 0, 0, 0), [("board", "great", 5)])
        good = [("board", "great", 5), ("rank", "flute", 7, 2), ("stop", "open", "great"), ("line", "flute", 0, 0, 0)]
        others = (("board", "swell", 5), ("rank", "reed", 5, 5), ("coupler", "over", "great", "great", 1),
                  ("mute", "hush", "great"), ("step", "open"))
        self.check(good[:2], good[3])
        self.check([good[1], good[0]], good[3])
        for other in others:
            self.check(good[:3] + [other], good[3])
            self.check(good + [other], good[3])
            self.assertEqual(refused_at(good + [other]), "taken")

    def test_a_fifth_line(self):
        line = EXAMPLE[3]
        self.assertEqual(refused_at(EXAMPLE[:3] + [line] * 4), "taken")
        self.check(EXAMPLE[:3] + [line] * 4, line)
        self.check(EXAMPLE[:3] + [line] * 4, ("line", "flute", 0, 0, 0))
        second = EXAMPLE[:3] + [line] * 4 + [("stop", "horn", "great")] + [line] * 4
        self.assertEqual(refused_at(second), "taken")
        self.check(second, line)
        self.check(EXAMPLE[:3] + [line] * 2 + [("stop", "horn", "great")] + [line] * 4, line)


class TestSteps(Refusing):
    def test_a_stop_twice_and_no_stop(self):
        for wrong in (("step",), ("step", "open", "open"), ("step", "open", "horn", "open"),
                      ("step", "horn", "open", "open"), ("step", "open", "horn", "last", "horn")):
            self.check(AHEAD, wrong)

    def test_a_wrong_name_at_each_place(self):
        for thing in wrong_things("stop"):
            for wrong in (("step", thing), ("step", thing, "horn"), ("step", "horn", thing),
                          ("step", "horn", thing, "last"), ("step", thing, thing)):
                self.check(AHEAD, wrong)

    def test_a_step_where_there_is_no_stop_at_all(self):
        self.check([], ("step", "open"), [("board", "great", 5)])
        self.check([("board", "great", 5)], ("step", "great"))


class TestTooMany(Refusing):
    def test_one_row_too_many_of_each_kind(self):
        rows = most_rows(0)
        self.assertEqual(refused_at(rows), "taken")
        board = nth_name("b", 0)
        for wrong in (("board", "more", 5), ("rank", "more", 5, 5), ("stop", "more", board),
                      ("coupler", "more", board, board, 0), ("mute", "more", board), ("step", nth_name("s", 0))):
            for handed in (rows + [wrong], rows + [wrong, rows[17]], rows + [wrong] * 3, rows + [wrong, None]):
                with self.subTest(wrong, of=len(handed)):
                    self.assertEqual(refused_at(handed), 70)

    def test_one_too_many_with_few_others(self):
        boards = [("board", nth_name("b", number), 1) for number in range(6)]
        ranks = [("rank", nth_name("r", number), 1, 0) for number in range(13)]
        stops = [("stop", nth_name("s", number), "baa") for number in range(25)]
        couplers = [("coupler", nth_name("c", number), "baa", "baa", 0) for number in range(13)]
        mutes = [("mute", nth_name("m", number), "baa") for number in range(6)]
        steps = [("step", "saa")] * 13
        for some in (ranks, stops, couplers, mutes):
            self.assertEqual(refused_at(boards[:1] + some[:-1]), "taken")
            self.check(boards[:1] + some[:-1], some[-1])
        self.assertEqual(refused_at(boards[:5]), "taken")
        self.assertEqual(refused_at(boards[:1] + stops[:1] + steps[:12]), "taken")
        for more in ([], [("rank", "other", 1, 0)], [None]):
            self.assertEqual(refused_at(boards + more), 5)
            self.assertEqual(refused_at(boards[:1] + stops[:1] + steps + more), 14)

    def test_one_too_many_that_is_wrong_besides(self):
        boards = [("board", nth_name("b", number), 1) for number in range(5)]
        self.assertEqual(refused_at(boards + [("board", "more", 0)]), 5)
        self.assertEqual(refused_at(boards + [("board", "baa", 1)]), 5)


class TestWhichRow(unittest.TestCase):
    def test_the_first_one_where_several_are_wrong(self):
        wrong = (None, (), ("board",), ("board", "great", 0), ("stop", "x", "nothing"), ("line", "flute", 0, 1, 0), 5)
        for first in range(len(MIXED)):
            for second in range(first + 1, len(MIXED)):
                for place, thing in enumerate(wrong):
                    rows = list(MIXED)
                    rows[first] = thing
                    rows[second] = wrong[place - 1]
                    self.assertEqual(refused_at(rows), first)

    def test_each_row_made_wrong(self):
        for place in range(len(MIXED)):
            for thing in (None, (), [], "", ("board",), ("board", "x", 62), ("board", "Great", 5)):
                rows = list(MIXED)
                rows[place] = thing
                self.assertEqual(refused_at(rows), place)

    def test_a_row_left_out_makes_a_later_one_wrong(self):
        self.assertEqual(refused_at(MIXED[1:]), 2)
        self.assertEqual(refused_at(MIXED[:1] + MIXED[2:]), 1)
        self.assertEqual(refused_at(MIXED[:2] + MIXED[3:]), 2)
        self.assertEqual(refused_at(MIXED[:6] + MIXED[7:]), 6)

    def test_wrong_rows_at_the_start_and_the_end_of_150(self):
        rows = most_rows()
        for place in (0, 5, 75, 148, 149):
            for thing in (None, (), ("board", "x", 62)):
                wrong = list(rows)
                wrong[place] = thing
                self.assertEqual(refused_at(wrong), place)
        self.assertEqual(refused_at([None] * 150), 0)
        self.assertEqual(refused_at([("board", "great", 5)] + [None] * 149), 1)


class TestNoRowAtAll(unittest.TestCase):
    def test_things_that_are_no_list(self):
        for place, thing in enumerate(NOT_LISTS):
            with self.subTest(place):
                self.assertIsNone(refused_at(thing))
        self.assertIsNone(refused_at(tuple(MIXED)))
        self.assertIsNone(refused_at(dict.fromkeys(MIXED)))

    def test_the_empty_list(self):
        self.assertIsNone(refused_at([]))

    def test_151_things(self):
        rows = most_rows(0)
        for count in (151, 152, 300, 1000):
            for handed in ([None] * count, [()] * count, rows + [None] * (count - 70), [None] + rows * 15,
                           [("board", "great", 5)] * count, most_rows(96)[:150] + [("step", "saa")] * (count - 150)):
                with self.subTest(count):
                    self.assertIsNone(refused_at(handed))

    def test_151_rows_each_of_which_is_good(self):
        rows = most_rows(96)
        self.assertEqual(len(rows), 166)
        # The last rows are steps, and no other one asks for a step: each row is good behind those ahead.
        self.assertEqual(refused_at(rows[:150]), "taken")
        self.assertIsNone(refused_at(rows[:151]))
        self.assertIsNone(refused_at(rows))

    def test_good_rows_none_of_which_is_a_board(self):
        ranks = [("rank", nth_name("r", number), number + 1, number) for number in range(12)]
        for count in (1, 2, 12):
            self.assertIsNone(refused_at(ranks[:count]))

    def test_no_board_and_a_wrong_row(self):
        ranks = [("rank", nth_name("r", number), number + 1, number) for number in range(13)]
        self.assertEqual(refused_at(ranks), 12)
        for thing in (None, (), ("rank", "flute", 0, 0), ("board", "great", 0), ("stop", "open", "great"),
                      ("line", "raa", 0, 0, 0), ("step", "open"), ("mute", "hush", "great")):
            for place in (0, 1, 7):
                with self.subTest(str(thing), place=place):
                    self.assertEqual(refused_at(ranks[:place] + [thing]), place)
                    self.assertEqual(refused_at(ranks[:place] + [thing] + ranks[place:10]), place)


class TestRefusalsChangeNothing(unittest.TestCase):
    def test_an_organ_stays_when_another_one_is_refused(self):
        organ = Organ(MIXED)
        for wrong in ([], MIXED + [None], MIXED + MIXED, [None]):
            self.assertRaises(NoOrgan, Organ, wrong)
            self.assertEqual(organ.rows(), MIXED)
            self.assertEqual(Organ(MIXED).rows(), MIXED)

    def test_things_handed_in_stay(self):
        inner = ["board", "great", 5]
        handed = [("board", "great", 5), inner]
        self.assertEqual(refused_at(handed), 1)
        self.assertEqual(handed, [("board", "great", 5), ["board", "great", 5]])


if __name__ == "__main__":
    unittest.main()
