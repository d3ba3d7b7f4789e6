"""Point [14], the console: what its deeds do and tell. What it refuses is tested in test_console_refused.py."""

import inspect
import random
import unittest

from sample_organs import MIXED, Model, bits, chance_organs, members, most_rows
from windchest.console import Console
from windchest.organ import Organ
from windchest.pipes import sounding_pipes

# Of MIXED the knobs are, by number: open (great), hush (great), down (swell to great), bare (swell),
# round (great to great), horn (swell), still (pedal). Its steps add {0}, {5, 0} and {3, 5}.
NAMES = ("open", "hush", "down", "bare", "round", "horn", "still")
OF_BOARDS = {"great": [0, 1, 4], "swell": [2, 3, 5], "pedal": [6]}
ADDED = ([], [0], [0, 5], [0, 3, 5])


def console_with(*names):
    console = Console(Organ(MIXED))
    for name in names:
        console.pull(name)
    return console


class ConsoleTest(unittest.TestCase):
    def check_drawn(self, console, wanted):
        self.assertEqual(members(console.drawn()), sorted(wanted))

    def check_state(self, console, drawn, in_force, step):
        self.check_drawn(console, drawn)
        self.assertEqual(members(console.knobs()), sorted(in_force))
        self.assertEqual(console.step(), step)


class TestArguments(unittest.TestCase):
    def test_names_of_arguments(self):
        wanted = {"pull": ["name"], "push": ["name"], "store": ["piston", "board"], "press": ["piston"],
                  "cancel": [], "shoe": ["step"], "drawn": [], "knobs": [], "step": []}
        for name, arguments in wanted.items():
            with self.subTest(name):
                self.assertEqual(list(inspect.signature(getattr(Console, name)).parameters), ["self"] + arguments)
        self.assertEqual(list(inspect.signature(Console).parameters), ["organ"])
        self.assertIsNone(inspect.signature(Console.store).parameters["board"].default)


class TestAtFirst(ConsoleTest):
    def test_nothing_is_drawn_and_the_shoe_is_at_nought(self):
        for rows in (MIXED, [("board", "a", 1)], most_rows()):
            self.check_state(Console(Organ(rows)), [], [], 0)

    def test_kinds(self):
        console = Console(Organ(MIXED))
        for told in (console.drawn(), console.knobs(), console.step()):
            self.assertIs(type(told), int)


class TestPullAndPush(ConsoleTest):
    def test_each_kind_of_knob_twice_over(self):
        for number, name in enumerate(NAMES):
            with self.subTest(name):
                console = console_with()
                self.assertIs(console.push(name), False)
                self.assertIs(console.pull(name), True)
                self.check_state(console, [number], [number], 0)
                self.assertIs(console.pull(name), False)
                self.check_state(console, [number], [number], 0)
                self.assertIs(console.push(name), True)
                self.check_state(console, [], [], 0)
                self.assertIs(console.push(name), False)
                self.check_state(console, [], [], 0)
                self.assertIs(console.pull(name), True)
                self.check_state(console, [number], [number], 0)

    def test_the_others_stay(self):
        console = console_with("open", "down", "still")
        self.assertIs(console.pull("horn"), True)
        self.check_drawn(console, [0, 2, 5, 6])
        self.assertIs(console.push("down"), True)
        self.check_drawn(console, [0, 5, 6])
        self.assertIs(console.push("round"), False)
        self.check_drawn(console, [0, 5, 6])
        for name in NAMES:
            console.pull(name)
        self.check_drawn(console, range(7))

    def test_all_knobs_of_the_greatest_organ(self):
        organ = Organ(most_rows())
        console = Console(organ)
        for number, (_, name) in enumerate(organ.knobs()):
            self.assertIs(console.pull(name), True)
            self.check_drawn(console, range(number + 1))
        for number, (_, name) in enumerate(organ.knobs()):
            self.assertIs(console.push(name), True)
            self.check_drawn(console, range(number + 1, 41))

    def test_the_shoe_does_not_count(self):
        for step in range(4):
            for number, name in enumerate(NAMES):
                with self.subTest(name, step=step):
                    console = console_with()
                    console.shoe(step)
                    self.assertIs(console.push(name), False)
                    self.check_state(console, [], ADDED[step], step)
                    self.assertIs(console.pull(name), True)
                    self.check_state(console, [number], {number, *ADDED[step]}, step)
                    self.assertIs(console.pull(name), False)
                    self.assertIs(console.push(name), True)
                    self.check_state(console, [], ADDED[step], step)


class TestStoreAndPressAll(ConsoleTest):
    def test_nothing_told(self):
        console = console_with("open")
        self.assertIsNone(console.store(0))
        self.assertIsNone(console.press(0))
        self.assertIsNone(console.store(1, "great"))
        self.assertIsNone(console.press(1))

    def test_each_piston(self):
        console = console_with()
        for piston in range(10):
            console.store(piston)
            console.pull(NAMES[piston % 7])
        for piston in reversed(range(10)):
            console.press(piston)
            self.check_drawn(console, range(min(piston, 7)))

    def test_just_what_was_stored_is_drawn_behind_it(self):
        console = console_with("open", "down", "still")
        console.store(4)
        self.check_drawn(console, [0, 2, 6])
        console.push("down")
        console.pull("horn")
        self.check_drawn(console, [0, 5, 6])
        console.press(4)
        self.check_drawn(console, [0, 2, 6])
        console.press(4)
        self.check_drawn(console, [0, 2, 6])

    def test_no_knobs_stored(self):
        console = console_with()
        console.store(0)
        for name in NAMES:
            console.pull(name)
        console.press(0)
        self.check_drawn(console, [])

    def test_all_knobs_stored(self):
        console = console_with(*NAMES)
        console.store(9)
        console.cancel()
        console.press(9)
        self.check_drawn(console, range(7))

    def test_what_is_done_later_changes_nothing_that_is_stored(self):
        console = console_with("open")
        console.store(3)
        console.pull("horn")
        console.push("open")
        console.store(5)
        console.press(3)
        self.check_drawn(console, [0])
        console.pull("bare")
        console.press(5)
        self.check_drawn(console, [5])

    def test_stored_in_the_place_of_what_was(self):
        console = console_with("open")
        console.store(2)
        console.push("open")
        console.pull("hush")
        console.store(2)
        console.cancel()
        console.press(2)
        self.check_drawn(console, [1])

    def test_none_as_the_board_is_all(self):
        console = console_with("open", "horn")
        console.store(0, None)
        console.store(piston=1, board=None)
        for piston in (0, 1):
            console.cancel()
            console.pull("still")
            console.press(piston)
            self.check_drawn(console, [0, 5])


class TestStoreAndPressABoard(ConsoleTest):
    def test_a_boards_knobs_alone_are_stored(self):
        for board, of_board in OF_BOARDS.items():
            with self.subTest(board):
                console = console_with(*NAMES)
                console.store(0, board)
                self.check_drawn(console, range(7))
                console.cancel()
                console.press(0)
                self.check_drawn(console, of_board)

    def test_a_boards_knobs_alone_are_put(self):
        for board, of_board in OF_BOARDS.items():
            with self.subTest(board):
                console = console_with()
                console.store(0, board)
                for name in NAMES:
                    console.pull(name)
                console.press(0)
                self.check_drawn(console, set(range(7)) - set(of_board))

    def test_of_the_boards_knobs_just_those_that_were_drawn(self):
        console = console_with("open", "down", "bare", "still")
        console.store(7, "great")
        console.store(8, board="swell")
        console.cancel()
        for name in ("hush", "round", "horn", "still"):
            console.pull(name)
        console.press(7)
        self.check_drawn(console, [0, 5, 6])
        console.press(8)
        self.check_drawn(console, [0, 2, 3, 6])
        console.press(8)
        self.check_drawn(console, [0, 2, 3, 6])

    def test_a_coupler_is_of_its_first_board_alone(self):
        rows = [("board", "a", 2), ("board", "b", 2), ("coupler", "ab", "a", "b", 0), ("coupler", "ba", "b", "a", 0)]
        console = Console(Organ(rows))
        console.pull("ab")
        console.pull("ba")
        console.store(0, "a")
        console.store(1, "b")
        console.cancel()
        console.press(0)
        self.check_drawn(console, [0])
        console.cancel()
        console.press(1)
        self.check_drawn(console, [1])

    def test_a_board_without_knobs(self):
        rows = [("board", "a", 2), ("board", "b", 2), ("stop", "s", "a"), ("coupler", "c", "a", "b", 0)]
        console = Console(Organ(rows))
        console.pull("s")
        console.store(0, "b")
        console.push("s")
        console.pull("c")
        console.press(0)
        self.check_drawn(console, [1])

    def test_stored_over_each_other(self):
        console = console_with("open", "bare")
        console.store(0)
        console.store(0, "swell")
        console.store(1, "swell")
        console.store(1)
        console.cancel()
        console.pull("still")
        console.press(0)
        self.check_drawn(console, [3, 6])
        console.press(1)
        self.check_drawn(console, [0, 3])
        console.store(0, "pedal")
        console.pull("still")
        console.press(0)
        self.check_drawn(console, [0, 3])

    def test_against_a_model_for_many_organs(self):
        for rows, chance in chance_organs(20, 60):
            organ, model = Organ(rows), Model(rows)
            console, drawn, stored = Console(organ), set(), {}
            for _ in range(30):
                deed = chance.choice(("pull", "pull", "push", "store", "press"))
                piston = chance.randrange(3)
                knob = chance.randrange(len(model.knobs)) if model.knobs else None
                if deed == "pull" and knob is not None:
                    self.assertEqual(console.pull(model.knobs[knob][1]), knob not in drawn)
                    drawn.add(knob)
                elif deed == "push" and knob is not None:
                    self.assertEqual(console.push(model.knobs[knob][1]), knob in drawn)
                    drawn.discard(knob)
                elif deed == "store":
                    board = chance.choice([None] + list(model.boards))
                    console.store(piston, board)
                    whole = {each for each, row in enumerate(model.knobs) if board in (None, row[2])}
                    stored[piston] = (drawn & whole, whole)
                elif deed == "press" and piston in stored:
                    console.press(piston)
                    drawn = (drawn - stored[piston][1]) | stored[piston][0]
                self.assertEqual(console.drawn(), bits(drawn))


class TestShoe(ConsoleTest):
    def test_each_step(self):
        console = console_with("hush", "open")
        for step in (0, 1, 2, 3, 2, 0, 3, 1, 1, 0):
            with self.subTest(step=step):
                self.assertIsNone(console.shoe(step))
                self.check_state(console, [0, 1], {0, 1, *ADDED[step]}, step)

    def test_with_nothing_drawn(self):
        console = console_with()
        for step in range(4):
            console.shoe(step)
            self.check_state(console, [], ADDED[step], step)

    def test_an_organ_without_steps(self):
        console = Console(Organ([("board", "a", 1), ("mute", "m", "a")]))
        console.pull("m")
        self.assertIsNone(console.shoe(0))
        self.check_state(console, [0], [0], 0)

    def test_twelve_steps(self):
        console = Console(Organ(most_rows()))
        for step in range(13):
            console.shoe(step)
            self.check_state(console, [], range(step + 1) if step else [], step)

    def test_a_pushed_stop_stays_in_force_by_the_shoe(self):
        console = console_with("open", "horn")
        console.shoe(1)
        console.push("open")
        self.check_state(console, [5], [0, 5], 1)
        console.shoe(0)
        self.check_state(console, [5], [5], 0)

    def test_a_pulled_stop_stays_when_the_shoe_goes_back(self):
        console = console_with()
        console.shoe(2)
        console.pull("horn")
        console.shoe(0)
        self.check_state(console, [5], [5], 0)

    def test_what_the_shoe_alone_adds_is_not_stored(self):
        console = console_with("hush", "horn")
        console.shoe(3)
        console.store(0)
        console.store(1, "great")
        console.store(2, "swell")
        console.cancel()
        console.press(0)
        self.check_state(console, [1, 5], [1, 5], 0)
        console.cancel()
        console.press(1)
        self.check_state(console, [1], [1], 0)
        console.cancel()
        console.press(2)
        self.check_state(console, [5], [5], 0)

    def test_pressing_leaves_the_shoe_where_it_is(self):
        console = console_with("hush")
        console.store(0)
        console.store(1, "swell")
        console.pull("still")
        console.shoe(2)
        console.press(1)
        self.check_state(console, [1, 6], [0, 1, 5, 6], 2)
        console.press(0)
        self.check_state(console, [1], [0, 1, 5], 2)

    def test_what_is_in_force_sounds(self):
        console = console_with()
        held = bits([0])
        self.assertEqual(sounding_pipes(Organ(MIXED), console.knobs(), held), 0)
        console.shoe(1)
        self.assertEqual(sounding_pipes(Organ(MIXED), console.knobs(), held), 1)


class TestCancel(ConsoleTest):
    def test_no_knob_is_drawn_and_the_shoe_is_at_nought(self):
        console = console_with(*NAMES)
        console.shoe(3)
        self.assertIsNone(console.cancel())
        self.check_state(console, [], [], 0)
        self.assertIsNone(console.cancel())
        self.check_state(console, [], [], 0)

    def test_with_the_shoe_alone(self):
        console = console_with()
        console.shoe(2)
        console.cancel()
        self.check_state(console, [], [], 0)

    def test_what_is_stored_stays(self):
        console = console_with("open", "bare")
        console.store(0)
        console.store(9, "swell")
        console.cancel()
        console.press(0)
        self.check_drawn(console, [0, 3])
        console.cancel()
        console.press(9)
        self.check_drawn(console, [3])

    def test_a_knob_can_be_pulled_anew(self):
        console = console_with("open")
        console.cancel()
        self.assertIs(console.push("open"), False)
        self.assertIs(console.pull("open"), True)


class TestTwoConsoles(ConsoleTest):
    def test_two_of_one_organ_do_not_disturb_each_other(self):
        organ = Organ(MIXED)
        one, other = Console(organ), Console(organ)
        one.pull("open")
        one.store(0)
        one.shoe(3)
        self.check_state(other, [], [], 0)
        other.pull("hush")
        other.store(0)
        other.store(1, "great")
        other.cancel()
        self.check_state(one, [0], [0, 3, 5], 3)
        one.cancel()
        one.press(0)
        other.press(0)
        self.check_state(one, [0], [0], 0)
        self.check_state(other, [1], [1], 0)

    def test_a_new_one_has_nothing_of_an_old_one(self):
        organ = Organ(MIXED)
        old = Console(organ)
        old.pull("open")
        old.shoe(1)
        self.check_state(Console(organ), [], [], 0)

    def test_the_organ_stays_as_it_was(self):
        organ = Organ(MIXED)
        console = Console(organ)
        for name in NAMES:
            console.pull(name)
        for step in (1, 2, 3):
            console.shoe(step)
            console.knobs()
            console.store(step, "great")
            console.press(step)
        console.cancel()
        self.assertEqual(organ.rows(), MIXED)
        self.assertEqual(organ.steps(), [bits([0]), bits([0, 5]), bits([3, 5])])

    def test_nothing_done_behind_the_call_changes_a_console(self):
        rows = list(MIXED)
        organ = Organ(rows)
        console = Console(organ)
        rows.clear()
        for told in (organ.rows(), organ.boards(), organ.knobs(), organ.steps()):
            told.clear()
        self.assertIs(console.pull("still"), True)
        console.shoe(3)
        self.check_state(console, [6], [0, 3, 5, 6], 3)

    def test_what_is_asked_changes_nothing(self):
        console = console_with("open")
        console.shoe(2)
        for _ in range(3):
            self.check_state(console, [0], [0, 5], 2)

    def test_many_deeds_on_several_consoles(self):
        chance = random.Random(21)
        organ = Organ(MIXED)
        consoles = [(Console(organ), set()) for _ in range(3)]
        for _ in range(200):
            console, drawn = chance.choice(consoles)
            number = chance.randrange(7)
            if chance.randrange(2):
                self.assertEqual(console.pull(NAMES[number]), number not in drawn)
                drawn.add(number)
            else:
                self.assertEqual(console.push(NAMES[number]), number in drawn)
                drawn.discard(number)
            for each, wanted in consoles:
                self.check_drawn(each, wanted)


if __name__ == "__main__":
    unittest.main()
