"""Points [6], good rows, [7], how things are numbered, and [3], whose lists are whose."""

import inspect
import unittest

from sample_organs import EXAMPLE, KNOB_WORDS, MIXED, NO_NAMES, most_rows
from windchest.organ import Organ

ONE_KEY = [("board", "a", 1)]
SAMPLES = (ONE_KEY, EXAMPLE, MIXED, most_rows(0), most_rows(), most_rows(50))


def named(rows, words):
    return [row[1] for row in rows if row[0] in words]


class TestArguments(unittest.TestCase):
    def test_names_of_arguments(self):
        wanted = {
            "rows": [], "boards": [], "ranks": [], "knobs": [], "key_count": [], "pipe_count": [],
            "key": ["board", "number"], "board_of": ["key"], "pipe": ["rank", "number"], "rank_of": ["pipe"],
            "board_number": ["name"], "knob_number": ["name"], "stop": ["knob"], "coupler": ["knob"],
            "mute": ["knob"], "steps": [],
        }
        for name, arguments in wanted.items():
            with self.subTest(name):
                self.assertEqual(list(inspect.signature(getattr(Organ, name)).parameters), ["self"] + arguments)
        self.assertEqual(list(inspect.signature(Organ).parameters), ["rows"])


class TestGoodRows(unittest.TestCase):
    def check_taken(self, rows):
        with self.subTest(str(rows[-3:])[-110:]):
            self.assertEqual(Organ(rows).rows(), rows)

    def test_samples(self):
        for rows in SAMPLES:
            self.check_taken(rows)

    def test_least_and_greatest_keys(self):
        for keys in (1, 2, 60, 61):
            self.check_taken([("board", "great", keys)])
            self.assertEqual(Organ([("board", "great", keys)]).key_count(), keys)

    def test_least_and_greatest_pipes(self):
        for pipes in (1, 2, 96, 97):
            rows = [("board", "great", 1), ("rank", "flute", pipes, 5)]
            self.check_taken(rows)
            self.assertEqual(Organ(rows).pipe_count(), pipes)

    def test_least_and_greatest_wind(self):
        for wind in (0, 1, 10 ** 9 - 1, 10 ** 9):
            rows = [("board", "great", 1), ("rank", "flute", 3, wind)]
            self.check_taken(rows)
            self.assertEqual(Organ(rows).ranks(), [("flute", 3, wind)])

    def test_least_and_greatest_numbers_of_a_line(self):
        for keys in (1, 2, 61):
            for shift in (-200, -1, 0, 1, 200):
                for low, high in {(0, 0), (0, keys - 1), (keys - 1, keys - 1), (keys // 2, keys - 1)}:
                    rows = [("board", "great", keys), ("rank", "flute", 1, 0), ("stop", "open", "great"),
                            ("line", "flute", shift, low, high)]
                    self.check_taken(rows)
                    self.assertEqual(Organ(rows).stop(0), (0, [(0, shift, low, high)]))

    def test_low_and_high_are_keys_of_the_stops_own_board(self):
        self.check_taken([("board", "small", 2), ("board", "great", 61), ("board", "tiny", 1), ("rank", "flute", 1, 0),
                          ("stop", "open", "great"), ("line", "flute", 0, 60, 60)])

    def test_least_and_greatest_shift_of_a_coupler(self):
        for first in ("great", "swell"):
            for second in ("great", "swell"):
                for shift in (-60, -1, 0, 1, 60):
                    rows = [("board", "great", 61), ("board", "swell", 3), ("coupler", "c", first, second, shift)]
                    self.check_taken(rows)
                    numbers = {"great": 0, "swell": 1}
                    self.assertEqual(Organ(rows).coupler(0), (numbers[first], numbers[second], shift))

    def test_none_to_four_lines(self):
        for count in range(5):
            lines = [("line", "flute", line, 0, line) for line in range(count)]
            rows = [("board", "great", 5), ("rank", "flute", 9, 0), ("stop", "open", "great")] + lines
            self.check_taken(rows)
            self.check_taken(rows + [("stop", "other", "great")] + lines)
            self.check_taken(rows + [("mute", "hush", "great"), ("stop", "other", "great")] + lines)
            self.assertEqual(Organ(rows).stop(0), (0, [(0, line, 0, line) for line in range(count)]))

    def test_the_same_line_four_times(self):
        self.check_taken(EXAMPLE + [EXAMPLE[-1]] * 3)

    def test_steps_of_one_and_of_several_with_stops_in_common(self):
        stops = [("stop", name, "great") for name in "abcde"]
        rows = [("board", "great", 1)] + stops + [
            ("step", "c"), ("step", "a", "c"), ("step", "a", "b", "c", "d", "e"), ("step", "c"), ("step", "e", "a"),
        ]
        self.check_taken(rows)
        self.assertEqual(Organ(rows).steps(), [0b100, 0b101, 0b11111, 0b100, 0b10001])

    def test_a_step_of_all_stops(self):
        rows = most_rows(0)[:41]
        self.check_taken(rows + [tuple(["step"] + named(rows, ("stop",)))])

    def test_names_of_one_and_of_eight_letters(self):
        self.check_taken([
            ("board", "a", 1), ("board", "abcdefgh", 2), ("rank", "z", 1, 0), ("rank", "zzzzzzzz", 1, 0),
            ("stop", "b", "abcdefgh"), ("line", "zzzzzzzz", 0, 0, 1), ("line", "z", 0, 0, 1), ("stop", "stopstop", "a"),
            ("coupler", "c", "a", "abcdefgh", 0), ("coupler", "cccccccc", "abcdefgh", "a", 0), ("mute", "m", "a"),
            ("mute", "mmmmmmmm", "abcdefgh"), ("step", "b", "stopstop"),
        ])

    def test_names_that_are_words_of_rows(self):
        self.check_taken([
            ("board", "board", 2), ("rank", "rank", 2, 2), ("stop", "stop", "board"), ("line", "rank", 1, 1, 1),
            ("coupler", "coupler", "board", "board", 1), ("mute", "mute", "board"), ("stop", "step", "board"),
            ("stop", "line", "board"), ("step", "step", "line", "stop"),
        ])

    def test_as_many_of_each_kind_as_may_be(self):
        rows = most_rows(0)
        for word, most in (("board", 5), ("rank", 12), ("stop", 24), ("coupler", 12), ("mute", 5), ("step", 12)):
            self.assertEqual(len([row for row in rows if row[0] == word]), most)
        self.check_taken(rows)

    def test_150_rows(self):
        rows = most_rows()
        self.assertEqual(len(rows), 150)
        self.check_taken(rows)

    def test_several_couplers_and_mutes_alike_but_for_their_names(self):
        self.check_taken([("board", "great", 2), ("coupler", "a", "great", "great", 1),
                          ("coupler", "b", "great", "great", 1), ("mute", "c", "great"), ("mute", "d", "great")])

    def test_ranks_ahead_of_all_boards(self):
        self.check_taken([("rank", "flute", 3, 1), ("board", "great", 2)])


class TestWrittenOut(unittest.TestCase):
    def setUp(self):
        self.organ = Organ(MIXED)

    def test_boards_ranks_and_counts(self):
        self.assertEqual(self.organ.boards(), [("great", 3), ("swell", 4), ("pedal", 1)])
        self.assertEqual(self.organ.ranks(), [("flute", 5, 4), ("reed", 2, 10 ** 9), ("bass", 1, 0)])
        self.assertEqual(self.organ.key_count(), 8)
        self.assertEqual(self.organ.pipe_count(), 8)

    def test_knobs(self):
        self.assertEqual(self.organ.knobs(), [
            ("stop", "open"), ("mute", "hush"), ("coupler", "down"), ("stop", "bare"), ("coupler", "round"),
            ("stop", "horn"), ("mute", "still"),
        ])

    def test_stops(self):
        self.assertEqual(self.organ.stop(0), (0, [(0, 0, 0, 2), (0, -200, 1, 1)]))
        self.assertEqual(self.organ.stop(3), (1, []))
        self.assertEqual(self.organ.stop(5), (1, [(1, 200, 0, 3), (0, -3, 3, 3), (1, 0, 0, 0), (1, 1, 2, 3)]))

    def test_couplers_and_mutes(self):
        self.assertEqual(self.organ.coupler(2), (1, 0, -1))
        self.assertEqual(self.organ.coupler(4), (0, 0, 2))
        self.assertEqual(self.organ.mute(1), 0)
        self.assertEqual(self.organ.mute(6), 2)

    def test_steps(self):
        self.assertEqual(self.organ.steps(), [0b1, 0b100001, 0b101000])

    def test_keys_and_pipes(self):
        self.assertEqual([self.organ.key("great", number) for number in range(3)], [0, 1, 2])
        self.assertEqual([self.organ.key("swell", number) for number in range(4)], [3, 4, 5, 6])
        self.assertEqual(self.organ.key("pedal", 0), 7)
        self.assertEqual([self.organ.pipe("flute", number) for number in range(5)], [0, 1, 2, 3, 4])
        self.assertEqual([self.organ.pipe("reed", number) for number in range(2)], [5, 6])
        self.assertEqual(self.organ.pipe("bass", 0), 7)
        self.assertEqual([self.organ.board_of(key) for key in range(8)],
                         [(0, 0), (0, 1), (0, 2), (1, 0), (1, 1), (1, 2), (1, 3), (2, 0)])
        self.assertEqual([self.organ.rank_of(pipe) for pipe in range(8)],
                         [(0, 0), (0, 1), (0, 2), (0, 3), (0, 4), (1, 0), (1, 1), (2, 0)])

    def test_numbers_of_names(self):
        self.assertEqual([self.organ.board_number(name) for name in ("great", "swell", "pedal")], [0, 1, 2])
        self.assertEqual([self.organ.knob_number(name) for name in ("open", "hush", "down", "bare", "round", "horn")],
                         [0, 1, 2, 3, 4, 5])

    def test_an_organ_of_one_key(self):
        organ = Organ(ONE_KEY)
        self.assertEqual(organ.boards(), [("a", 1)])
        self.assertEqual((organ.ranks(), organ.knobs(), organ.steps()), ([], [], []))
        self.assertEqual((organ.key_count(), organ.pipe_count()), (1, 0))
        self.assertEqual((organ.key("a", 0), organ.board_of(0)), (0, (0, 0)))


class TestWhatIsTold(unittest.TestCase):
    def test_boards_and_ranks(self):
        for rows in SAMPLES:
            organ = Organ(rows)
            self.assertEqual(organ.boards(), [row[1:] for row in rows if row[0] == "board"])
            self.assertEqual(organ.ranks(), [row[1:] for row in rows if row[0] == "rank"])
            self.assertEqual(organ.key_count(), sum(row[2] for row in rows if row[0] == "board"))
            self.assertEqual(organ.pipe_count(), sum(row[2] for row in rows if row[0] == "rank"))

    def test_all_keys_there_and_back(self):
        for rows in SAMPLES:
            organ = Organ(rows)
            key = 0
            for number, (name, keys) in enumerate(organ.boards()):
                for each in range(keys):
                    self.assertEqual(organ.key(name, each), key)
                    self.assertEqual(organ.board_of(key), (number, each))
                    key += 1
            self.assertEqual(key, organ.key_count())

    def test_all_pipes_there_and_back(self):
        for rows in SAMPLES:
            organ = Organ(rows)
            pipe = 0
            for number, (name, pipes, _) in enumerate(organ.ranks()):
                for each in range(pipes):
                    self.assertEqual(organ.pipe(name, each), pipe)
                    self.assertEqual(organ.rank_of(pipe), (number, each))
                    pipe += 1
            self.assertEqual(pipe, organ.pipe_count())

    def test_numbers_of_all_names(self):
        for rows in SAMPLES:
            organ = Organ(rows)
            boards, knobs = named(rows, ("board",)), named(rows, KNOB_WORDS)
            for name in named(rows, KNOB_WORDS + ("board", "rank")):
                self.assertEqual(organ.board_number(name), boards.index(name) if name in boards else None)
                self.assertEqual(organ.knob_number(name), knobs.index(name) if name in knobs else None)

    def test_what_is_no_name_has_no_number(self):
        for rows in SAMPLES:
            organ = Organ(rows)
            for place, thing in enumerate(NO_NAMES):
                with self.subTest(place):
                    self.assertIsNone(organ.board_number(thing))
                    self.assertIsNone(organ.knob_number(thing))

    def test_knobs(self):
        for rows in SAMPLES:
            organ = Organ(rows)
            knobs = [row for row in rows if row[0] in KNOB_WORDS]
            boards = named(rows, ("board",))
            self.assertEqual(organ.knobs(), [row[:2] for row in knobs])
            for knob, row in enumerate(knobs):
                if row[0] == "coupler":
                    self.assertEqual(organ.coupler(knob), (boards.index(row[2]), boards.index(row[3]), row[4]))
                elif row[0] == "mute":
                    self.assertEqual(organ.mute(knob), boards.index(row[2]))
                else:
                    self.assertEqual(organ.stop(knob)[0], boards.index(row[2]))

    def test_lines(self):
        for rows in SAMPLES:
            organ = Organ(rows)
            ranks = named(rows, ("rank",))
            lines = {}
            for row in rows:
                if row[0] == "stop":
                    lines[row[1]] = []
                    name = row[1]
                elif row[0] == "line":
                    lines[name].append((ranks.index(row[1]),) + row[2:])
            for name, wanted in lines.items():
                self.assertEqual(organ.stop(organ.knob_number(name))[1], wanted)

    def test_steps(self):
        for rows in SAMPLES:
            knobs = named(rows, KNOB_WORDS)
            wanted = [sum(2 ** knobs.index(name) for name in row[1:]) for row in rows if row[0] == "step"]
            self.assertEqual(Organ(rows).steps(), wanted)

    def test_kinds(self):
        organ = Organ(MIXED)
        for told in (organ.rows(), organ.boards(), organ.ranks(), organ.knobs(), organ.steps(), organ.stop(0)[1]):
            self.assertIs(type(told), list)
        for told in organ.rows() + organ.boards() + organ.ranks() + organ.knobs() + organ.stop(5)[1] + [
                organ.board_of(3), organ.rank_of(3), organ.stop(0), organ.coupler(2)]:
            self.assertIs(type(told), tuple)
        for told in organ.steps() + [organ.key_count(), organ.pipe_count(), organ.key("swell", 1), organ.mute(1),
                                     organ.pipe("reed", 1), organ.board_number("swell"), organ.knob_number("horn")]:
            self.assertIs(type(told), int)


def all_told(organ):
    knobs = list(enumerate(organ.knobs()))
    return [
        organ.rows(), organ.boards(), organ.ranks(), organ.knobs(), organ.steps(), organ.key_count(),
        organ.pipe_count(), [organ.stop(knob) for knob, told in knobs if told[0] == "stop"],
        [organ.coupler(knob) for knob, told in knobs if told[0] == "coupler"],
        [organ.mute(knob) for knob, told in knobs if told[0] == "mute"],
        [organ.board_of(key) for key in range(organ.key_count())],
        [organ.rank_of(pipe) for pipe in range(organ.pipe_count())],
        [organ.board_number(board[0]) for board in organ.boards()],
        [organ.knob_number(knob[1]) for knob in organ.knobs()],
        [organ.key(board[0], 0) for board in organ.boards()],
        [organ.pipe(rank[0], 0) for rank in organ.ranks()],
    ]


class TestWhoseListsAreWhose(unittest.TestCase):
    def test_the_handed_in_list_stays_as_it_was(self):
        for rows in SAMPLES:
            handed = list(rows)
            all_told(Organ(handed))
            self.assertEqual(handed, rows)

    def test_a_told_list_is_the_askers_own(self):
        organ = Organ(MIXED)
        kept = all_told(organ)
        asks = (organ.rows, organ.boards, organ.ranks, organ.knobs, organ.steps,
                lambda: organ.stop(0)[1], lambda: organ.stop(3)[1], lambda: organ.stop(5)[1])
        for place, ask in enumerate(asks):
            with self.subTest(place):
                told = ask()
                told.append(("board", "other", 5))
                told[0] = None
                self.assertEqual(all_told(organ), kept)
                ask().clear()
                self.assertEqual(all_told(organ), kept)
                self.assertIsNone(told[0])

    def test_told_lists_without_anything_are_the_askers_own(self):
        organ = Organ(ONE_KEY)
        for ask in (organ.ranks, organ.knobs, organ.steps):
            ask().append(("stop", "x"))
            self.assertEqual(ask(), [])

    def test_nothing_done_to_the_handed_in_list_changes_the_organ(self):
        for rows in SAMPLES:
            handed = list(rows)
            organ = Organ(handed)
            kept = all_told(organ)
            handed.append(("board", "other", 5))
            handed[0] = None
            self.assertEqual(all_told(organ), kept)
            handed.clear()
            self.assertEqual(all_told(organ), kept)
            self.assertEqual(organ.rows(), rows)

    def test_two_organs_do_not_disturb_each_other(self):
        told = [all_told(Organ(rows)) for rows in SAMPLES]
        organs = [Organ(rows) for rows in SAMPLES]
        for organ, kept in reversed(list(zip(organs, told))):
            self.assertEqual(all_told(organ), kept)
        for organ, kept in zip(organs, told):
            self.assertEqual(all_told(organ), kept)

    def test_two_organs_of_one_list(self):
        handed = list(MIXED)
        one, other = Organ(handed), Organ(handed)
        kept = all_told(one)
        other.rows().clear()
        other.stop(0)[1].clear()
        self.assertEqual(all_told(one), kept)
        self.assertEqual(all_told(other), kept)

    def test_the_same_is_told_however_often_it_is_asked(self):
        for rows in SAMPLES:
            organ = Organ(rows)
            self.assertEqual(all_told(organ), all_told(organ))


if __name__ == "__main__":
    unittest.main()
