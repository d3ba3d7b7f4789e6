"""Point [15], what the player refuses, in which order, and that nothing is changed by it."""

import unittest
from unittest import mock

from sample_organs import MIXED, NO_NAMES, NO_WHOLE, members, most_rows
from windchest.errors import NoBoard, NoDeed, NoKey, NoKnob, NoPiston, NoStep, NotHeld, OrganError
from windchest.organ import Organ
from windchest.player import Player

NO_BOARDS = NO_NAMES + ("open", "hush", "down", "flute", "board", "hold", ["swell"], ("great", 3), 2)
BOARDS = (("great", 3), ("swell", 4), ("pedal", 1))
BEYOND = (-1, -2, -3, -4, 4, 5, 61, 100, 10 ** 30, -10 ** 30)


class RefusalTest(unittest.TestCase):
    def setUp(self):
        """Key 1 of great is held by one hand, key 0 of swell by two; piston 0 has all knobs, 1 great's."""
        self.player = Player(Organ(MIXED))
        for deed in (("hold", "great", 1), ("hold", "swell", 0), ("hold", "swell", 0), ("pull", "open"), ("store", 0),
                     ("store", 1, "great"), ("push", "open"), ("pull", "horn"), ("shoe", 1)):
            self.player.do(deed)

    def check_refused(self, error, *deeds):
        for deed in deeds:
            with self.subTest(repr(deed)[:80]):
                with self.assertRaises(OrganError) as caught:
                    self.player.do(deed)
                self.assertIs(type(caught.exception), error)
                self.check_unchanged()

    def check_unchanged(self):
        player = self.player
        self.assertEqual((members(player.sound()), members(player.held()), members(player.knobs())),
                         ([1, 5], [1, 3], [0, 5]))

    def tearDown(self):
        """Behind all that was refused there are the same hands, and the same is stored and drawn."""
        self.check_unchanged()
        self.assertEqual(self.player.do(("shoe", 0)), ([], [1]))
        self.assertEqual(self.player.do(("leave", "swell", 0)), ([], []))
        self.assertEqual(self.player.do(("leave", "swell", 0)), ([], [5]))
        self.assertEqual(self.player.do(("press", 1)), ([1], []))
        self.assertEqual(members(self.player.knobs()), [0, 5])
        self.assertEqual(self.player.do(("press", 0)), ([], []))
        self.assertEqual(members(self.player.knobs()), [0])
        self.assertEqual(self.player.do(("leave", "great", 1)), ([], [1]))
        self.assertEqual(self.player.held(), 0)
        for piston in range(2, 10):
            with self.assertRaises(NoPiston):
                self.player.do(("press", piston))


class TestNoDeed(RefusalTest):
    def test_what_is_no_tuple(self):
        self.check_refused(NoDeed, None, True, 0, 5, 1.5, "", "cancel", "hold great 1", [], ["cancel"],
                           ["hold", "great", 1], {}, {"cancel": 0}, {"cancel"}, b"cancel", object(), mock.ANY)

    def test_other_words(self):
        self.check_refused(NoDeed, (), ("",), ("play",), ("Cancel",), ("cancel ",), ("held", "great", 1), (None,), (5,),
                           (["cancel"],), ({},), (mock.ANY,), (b"cancel",), (("cancel",),), ("draw", "open"),
                           (mock.ANY, "open"), (["pull"], "open"), (0, ("cancel",)), ("knobs",), ("sound",))

    def test_one_part_more_and_one_less(self):
        self.check_refused(
            NoDeed, ("hold", "great"), ("hold", "great", 1, 1), ("hold",), ("leave", "great"), ("leave", "great", 1, 1),
            ("leave",), ("pull",), ("pull", "open", "open"), ("push",), ("push", "horn", "horn"), ("store",),
            ("store", 0, "great", "great"), ("store", 0, None, None), ("press",), ("press", 0, 0), ("press", 0, None),
            ("cancel", 0), ("cancel", None), ("cancel", "open"), ("shoe",), ("shoe", 0, 0), ("shoe", 0, None),
        )

    def test_ahead_of_all_else(self):
        self.check_refused(
            NoDeed, ("hold", "nothing"), ("hold", "nothing", 99, 0), ("leave", "nothing"), ("leave", None, None, None),
            ("leave", "great", 0, 0), ("pull", "nothing", 0), ("push", None, None), ("store", 99, "nothing", 0),
            ("store", None, None, None), ("press", 99, 99), ("press", 5, 5), ("shoe", 99, 99), ("cancel", "nothing"),
            ("release", "nothing", -1),
        )


class TestNoBoard(RefusalTest):
    def test_what_is_no_boards_name(self):
        for thing in NO_BOARDS:
            self.check_refused(NoBoard, ("hold", thing, 0), ("leave", thing, 0), ("hold", thing, 1),
                               ("leave", thing, 1))

    def test_where_the_key_is_wrong_too(self):
        for thing in NO_BOARDS:
            for number in NO_WHOLE + BEYOND:
                self.check_refused(NoBoard, ("hold", thing, number), ("leave", thing, number))

    def test_the_number_of_a_board(self):
        for number in range(4):
            self.check_refused(NoBoard, ("hold", number, 0), ("leave", number, 0))


class TestNoKey(RefusalTest):
    def test_what_is_no_whole_number(self):
        for thing in NO_WHOLE:
            for board, _ in BOARDS:
                self.check_refused(NoKey, ("hold", board, thing), ("leave", board, thing))

    def test_numbers_beyond_the_board(self):
        for board, keys in BOARDS:
            for number in (-1, -2, -keys, keys, keys + 1, 61, 10 ** 30, -10 ** 30):
                self.check_refused(NoKey, ("hold", board, number), ("leave", board, number))

    def test_the_greatest_boards(self):
        player = Player(Organ(most_rows()))
        for board, keys in Organ(most_rows()).boards():
            for number in (-1, keys):
                for word in ("hold", "leave"):
                    with self.assertRaises(NoKey):
                        player.do((word, board, number))
            player.do(("hold", board, keys - 1))
            player.do(("hold", board, 0))
        self.assertEqual(members(player.held()), [0, 60, 61, 121, 122, 182, 183, 243, 244, 304])


class TestNotHeld(RefusalTest):
    def test_keys_that_no_hand_holds(self):
        self.check_refused(NotHeld, ("leave", "great", 0), ("leave", "great", 2), ("leave", "swell", 1),
                           ("leave", "swell", 3), ("leave", "pedal", 0))

    def test_a_coupled_key_is_not_held(self):
        self.player.do(("pull", "round"))
        self.player.do(("hold", "great", 0))
        with self.assertRaises(NotHeld):
            self.player.do(("leave", "great", 2))
        self.player.do(("leave", "great", 0))
        self.player.do(("push", "round"))

    def test_one_leaving_too_many(self):
        for hands in (1, 2, 3):
            with self.subTest(hands=hands):
                for _ in range(hands):
                    self.player.do(("hold", "pedal", 0))
                for _ in range(hands):
                    self.player.do(("leave", "pedal", 0))
                self.check_refused(NotHeld, ("leave", "pedal", 0), ("leave", "pedal", 0))

    def test_a_refused_leaving_is_not_owed(self):
        for _ in range(3):
            with self.assertRaises(NotHeld):
                self.player.do(("leave", "great", 2))
        self.assertEqual(self.player.do(("hold", "great", 2)), ([2], []))
        self.assertEqual(self.player.do(("leave", "great", 2)), ([], [2]))

    def test_at_first(self):
        player = Player(Organ(MIXED))
        for board, keys in BOARDS:
            for number in range(keys):
                with self.assertRaises(NotHeld):
                    player.do(("leave", board, number))
        self.assertEqual((player.held(), player.sound()), (0, 0))

    def test_what_another_player_holds(self):
        organ = Organ(MIXED)
        Player(organ).do(("hold", "great", 0))
        with self.assertRaises(NotHeld):
            Player(organ).do(("leave", "great", 0))


class TestConsole(RefusalTest):
    def test_knobs(self):
        for thing in NO_NAMES + ("swell", "pedal", "flute", "stop", "Open", ["open"], ("open",), {"open": 0}, b"open"):
            self.check_refused(NoKnob, ("pull", thing), ("push", thing))

    def test_pistons(self):
        for thing in NO_WHOLE + (-1, 10, 11, 10 ** 30, -10 ** 30):
            self.check_refused(NoPiston, ("press", thing), ("store", thing), ("store", thing, None),
                               ("store", thing, "great"), ("store", thing, "nothing"), ("store", thing, []))

    def test_pistons_with_nothing_stored(self):
        self.check_refused(NoPiston, *[("press", number) for number in range(2, 10)])

    def test_boards_of_pistons(self):
        for thing in NO_BOARDS:
            if thing is not None:
                self.check_refused(NoBoard, ("store", 0, thing), ("store", 1, thing), ("store", 9, thing))

    def test_steps(self):
        for thing in NO_WHOLE + (-1, -2, 4, 5, 13, 10 ** 30, -10 ** 30):
            self.check_refused(NoStep, ("shoe", thing))


if __name__ == "__main__":
    unittest.main()
