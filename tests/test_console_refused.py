"""Point [14], what the console refuses, in which order, and that nothing is changed by it."""

import unittest
from unittest import mock

from sample_organs import MIXED, NO_NAMES, NO_WHOLE, members, most_rows
from windchest.console import Console
from windchest.errors import NoBoard, NoKnob, NoPiston, NoStep, OrganError
from windchest.organ import Organ

BEYOND_PISTONS = (-1, -2, -10, 10, 11, 100, 10 ** 30, -10 ** 30)


class RefusalTest(unittest.TestCase):
    def setUp(self):
        """Piston 0 has all knobs, 1 great's; the others have nothing."""
        self.console = Console(Organ(MIXED))
        for name in ("open", "down", "still"):
            self.console.pull(name)
        self.console.store(0)
        self.console.store(1, "great")
        self.console.push("open")
        self.console.pull("horn")
        self.console.shoe(1)

    def check_refused(self, error, deed, *parts):
        with self.subTest(repr(parts)[:60]):
            with self.assertRaises(OrganError) as caught:
                deed(*parts)
            self.assertIs(type(caught.exception), error)
            self.check_unchanged()

    def check_unchanged(self):
        console = self.console
        self.assertEqual((members(console.drawn()), members(console.knobs()), console.step()),
                         ([2, 5, 6], [0, 2, 5, 6], 1))

    def check_stored(self):
        """Presses what is stored, so this comes last."""
        self.console.press(0)
        self.assertEqual(members(self.console.drawn()), [0, 2, 6])
        self.console.push("open")
        self.console.pull("hush")
        self.console.press(1)
        self.assertEqual(members(self.console.drawn()), [0, 2, 6])
        for piston in range(2, 10):
            with self.assertRaises(NoPiston):
                self.console.press(piston)


class TestKnobs(RefusalTest):
    def test_what_is_no_knobs_name(self):
        for thing in NO_NAMES + ("great", "swell", "pedal", "flute", "reed", "bass", "stop", "mute", "Open", "open ",
                                 "ope", "openn", "", ["open"], ("open",), ("stop", "open"), {"open": 0}, b"open"):
            self.check_refused(NoKnob, self.console.pull, thing)
            self.check_refused(NoKnob, self.console.push, thing)
        self.check_stored()

    def test_the_number_of_a_knob(self):
        for number in range(8):
            self.check_refused(NoKnob, self.console.pull, number)
            self.check_refused(NoKnob, self.console.push, number)

    def test_an_organ_without_knobs(self):
        console = Console(Organ([("board", "great", 1), ("rank", "flute", 1, 0)]))
        for name in ("great", "flute", "open", "", None):
            with self.assertRaises(NoKnob):
                console.pull(name)
            with self.assertRaises(NoKnob):
                console.push(name)


class TestPistons(RefusalTest):
    def test_store(self):
        for thing in NO_WHOLE + BEYOND_PISTONS:
            self.check_refused(NoPiston, self.console.store, thing)
            self.check_refused(NoPiston, self.console.store, thing, None)
            self.check_refused(NoPiston, self.console.store, thing, "great")
        self.check_stored()

    def test_press(self):
        for thing in NO_WHOLE + BEYOND_PISTONS:
            self.check_refused(NoPiston, self.console.press, thing)
        self.check_stored()

    def test_press_where_nothing_is_stored(self):
        for piston in range(2, 10):
            self.check_refused(NoPiston, self.console.press, piston)
        console = Console(Organ(MIXED))
        for piston in range(10):
            with self.assertRaises(NoPiston):
                console.press(piston)

    def test_press_of_what_another_console_stored(self):
        organ = Organ(MIXED)
        Console(organ).store(5)
        with self.assertRaises(NoPiston):
            Console(organ).press(5)

    def test_a_refused_store_stores_nothing(self):
        with self.assertRaises(NoBoard):
            self.console.store(7, "nothing")
        self.check_refused(NoPiston, self.console.press, 7)
        self.check_stored()


class TestBoards(RefusalTest):
    NO_BOARDS = tuple(thing for thing in NO_NAMES if thing is not None) + (
        "open", "hush", "down", "flute", "board", ["swell"], ("great", 3), 2,
    )

    def test_what_is_no_boards_name(self):
        for thing in self.NO_BOARDS:
            for piston in (0, 1, 9):
                self.check_refused(NoBoard, self.console.store, piston, thing)
        self.check_stored()

    def test_where_both_are_wrong_the_piston_comes_first(self):
        for thing in self.NO_BOARDS:
            for piston in (-1, 10, True, False, "0", None, [], 1.0, mock.ANY):
                self.check_refused(NoPiston, self.console.store, piston, thing)
        self.check_stored()

    def test_the_board_comes_by_its_name_as_well(self):
        with self.assertRaises(NoBoard):
            self.console.store(piston=0, board="nothing")
        self.check_unchanged()


class TestShoe(RefusalTest):
    def test_what_is_no_step(self):
        for thing in NO_WHOLE + (-1, -2, 4, 5, 13, 100, 10 ** 30, -10 ** 30):
            self.check_refused(NoStep, self.console.shoe, thing)
        self.check_stored()

    def test_just_beyond_the_last_step(self):
        for rows, steps in (([("board", "a", 1)], 0), (MIXED, 3), (most_rows(), 12)):
            console = Console(Organ(rows))
            console.shoe(steps)
            for thing in (steps + 1, -1):
                with self.assertRaises(NoStep):
                    console.shoe(thing)
                self.assertEqual(console.step(), steps)

    def test_an_organ_without_steps(self):
        console = Console(Organ([("board", "a", 1), ("stop", "s", "a")]))
        for thing in NO_WHOLE + (-1, 1, 2):
            with self.assertRaises(NoStep):
                console.shoe(thing)
        self.assertEqual((console.step(), console.knobs()), (0, 0))


if __name__ == "__main__":
    unittest.main()
