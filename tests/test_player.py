"""Point [15], the player: what its deeds do and tell. What it refuses is tested in test_player_refused.py."""

import inspect
import random
import unittest
from unittest import mock

from sample_organs import MIXED, PlayerModel, bits, chance_deed, lively_organs, members, most_rows
from windchest.errors import OrganError
from windchest.organ import Organ
from windchest.pipes import sounding_pipes
from windchest.player import Player, is_deed
from windchest.relays import Relays

# Of MIXED the keys are great's 0 to 2, swell's 3 to 6 and pedal's 7; the pipes are flute's 0 to 4, reed's 5 and 6 and
# bass's 7. Of its knobs open leads key i of great to pipe i, horn key 3 of swell to pipe 0 and key 0 to pipe 5, down
# key i of swell to key i - 1 of great, round key i of great to key i + 2; hush mutes great. The shoe adds open, then
# horn.
WORDS = {"hold": [3], "leave": [3], "pull": [2], "push": [2], "store": [2, 3], "press": [2], "cancel": [1], "shoe": [2]}
PARTS = ("great", 0, 1, -5, 10 ** 40, None, True, 1.5, [], [0], {}, {0}, (), (1, 2), b"great", object(), mock.ANY)


def player_behind(*deeds):
    player = Player(Organ(MIXED))
    for deed in deeds:
        player.do(deed)
    return player


class PlayerTest(unittest.TestCase):
    def check_state(self, player, sound, held, knobs):
        self.assertEqual((members(player.sound()), members(player.held()), members(player.knobs())),
                         (sorted(sound), sorted(held), sorted(knobs)))

    def check_deeds(self, player, *rows):
        """Each row has a deed and the pipes that it lets begin and end."""
        sound = set(members(player.sound()))
        for deed, begun, ended in rows:
            with self.subTest(deed):
                told = player.do(deed)
                self.assertEqual(told, (begun, ended))
                self.assertEqual([type(told)] + [type(part) for part in told], [tuple, list, list])
                sound = sound - set(ended) | set(begun)
                self.assertEqual(members(player.sound()), sorted(sound))


class TestArguments(unittest.TestCase):
    def test_names_of_arguments(self):
        for name, arguments in {"do": ["deed"], "sound": [], "held": [], "knobs": []}.items():
            with self.subTest(name):
                self.assertEqual(list(inspect.signature(getattr(Player, name)).parameters), ["self"] + arguments)
        self.assertEqual(list(inspect.signature(Player).parameters), ["organ"])
        self.assertEqual(list(inspect.signature(is_deed).parameters), ["thing"])

    def test_kinds(self):
        player = player_behind(("pull", "open"), ("hold", "great", 0))
        for told in (player.sound(), player.held(), player.knobs()):
            self.assertIs(type(told), int)


class TestIsDeed(unittest.TestCase):
    def test_every_word_with_every_count_of_parts(self):
        for word, counts in WORDS.items():
            for count in range(1, 7):
                with self.subTest(word, count=count):
                    self.assertIs(is_deed((word,) + ("great",) * (count - 1)), count in counts)

    def test_parts_of_every_kind(self):
        for word, counts in WORDS.items():
            for part in PARTS:
                for count in range(2, 6):
                    with self.subTest(word, part=repr(part), count=count):
                        self.assertIs(is_deed((word,) + (part,) * (count - 1)), count in counts)

    def test_unlike_parts(self):
        for thing in (("hold", [], None), ("leave", mock.ANY, {}), ("store", None, None), ("store", {}, "nothing")):
            self.assertIs(is_deed(thing), True)

    def test_other_words(self):
        for word in ("", "Hold", "HOLD", "hold ", " hold", "hol", "holdd", "held", "play", "draw", "sound", "knobs",
                     "do", "great", "0", "stop", "cancel\n", "hold great 1"):
            for count in range(1, 5):
                with self.subTest(word, count=count):
                    self.assertIs(is_deed((word,) + (1,) * (count - 1)), False)

    def test_words_of_other_kinds(self):
        for word in (None, True, 0, 1, 1.0, [], ["hold"], ("hold",), {}, {"hold": 3}, {"cancel"}, b"hold", b"cancel",
                     object(), mock.ANY, ("cancel",)):
            for count in range(1, 5):
                with self.subTest(repr(word), count=count):
                    self.assertIs(is_deed((word,) + (1,) * (count - 1)), False)

    def test_what_is_no_tuple(self):
        for thing in (None, True, False, 0, 1, -1, 2.5, "", "cancel", "hold", "h", [], ["cancel"], ["hold", "great", 0],
                      ["pull", "open"], {}, {"cancel": 1}, {0: "cancel"}, {"cancel"}, b"cancel", object(), mock.ANY,
                      iter(("cancel",)), range(1)):
            with self.subTest(repr(thing)):
                self.assertIs(is_deed(thing), False)

    def test_the_empty_tuple(self):
        self.assertIs(is_deed(()), False)

    def test_a_deed_within_a_tuple(self):
        self.assertIs(is_deed((("cancel",),)), False)
        self.assertIs(is_deed((0, ("cancel",))), False)

    def test_what_is_asked_stays(self):
        parts = [1, [2]]
        self.assertIs(is_deed(("hold", parts, parts)), True)
        self.assertEqual(parts, [1, [2]])


class TestAtFirst(PlayerTest):
    def test_nothing_is_held_drawn_or_sounds(self):
        for rows in (MIXED, [("board", "a", 1)], most_rows()):
            self.check_state(Player(Organ(rows)), [], [], [])


class TestHands(PlayerTest):
    def test_each_key_of_each_board(self):
        organ = Organ(most_rows())
        player = Player(organ)
        wanted = set()
        for number, (board, keys) in enumerate(organ.boards()):
            for key in (0, keys // 2, keys - 1):
                self.assertEqual(player.do(("hold", board, key)), ([], []))
                wanted.add(61 * number + key)
                self.check_state(player, [], wanted, [])
        for number, (board, keys) in enumerate(organ.boards()):
            for key in (0, keys // 2, keys - 1):
                player.do(("leave", board, key))
                wanted.remove(61 * number + key)
                self.check_state(player, [], wanted, [])

    def test_as_many_hands_as_must_leave(self):
        for hands in (1, 2, 3, 7, 100):
            with self.subTest(hands=hands):
                player = player_behind(("pull", "open"))
                self.assertEqual(player.do(("hold", "great", 1)), ([1], []))
                for _ in range(hands - 1):
                    self.assertEqual(player.do(("hold", "great", 1)), ([], []))
                    self.check_state(player, [1], [1], [0])
                for _ in range(hands - 1):
                    self.assertEqual(player.do(("leave", "great", 1)), ([], []))
                    self.check_state(player, [1], [1], [0])
                self.assertEqual(player.do(("leave", "great", 1)), ([], [1]))
                self.check_state(player, [], [], [0])

    def test_hands_of_two_keys_are_counted_apart(self):
        player = player_behind(("pull", "open"), ("hold", "great", 0), ("hold", "great", 2), ("hold", "great", 0))
        self.check_deeds(player, (("leave", "great", 2), [], [2]), (("leave", "great", 0), [], []),
                         (("hold", "great", 2), [2], []), (("leave", "great", 0), [], [0]))
        self.check_state(player, [2], [2], [0])

    def test_the_same_number_on_two_boards(self):
        player = player_behind(("hold", "great", 1), ("hold", "swell", 1), ("hold", "great", 1))
        player.do(("leave", "swell", 1))
        self.check_state(player, [], [1], [])
        player.do(("leave", "great", 1))
        self.check_state(player, [], [1], [])
        player.do(("leave", "great", 1))
        self.check_state(player, [], [], [])

    def test_a_key_is_held_anew(self):
        player = player_behind(("hold", "pedal", 0), ("leave", "pedal", 0))
        for _ in range(3):
            self.check_state(player, [], [], [])
            player.do(("hold", "pedal", 0))
            self.check_state(player, [], [7], [])
            player.do(("leave", "pedal", 0))

    def test_coupled_keys_are_not_held(self):
        player = player_behind(("pull", "down"), ("hold", "swell", 1))
        self.check_state(player, [], [4], [2])


class TestTold(PlayerTest):
    def test_stops(self):
        player = player_behind(("hold", "great", 2), ("hold", "great", 0), ("hold", "swell", 0))
        self.check_deeds(player, (("pull", "open"), [0, 2], []), (("pull", "open"), [], []),
                         (("pull", "horn"), [5], []), (("push", "open"), [], [0, 2]), (("push", "open"), [], []),
                         (("push", "horn"), [], [5]))

    def test_couplers_and_mutes(self):
        player = player_behind(("pull", "open"))
        self.check_deeds(
            player,
            (("hold", "great", 1), [1], []),
            (("pull", "round"), [], []),
            (("hold", "great", 0), [0, 2], []),
            (("pull", "hush"), [], [0, 1]),
            (("hold", "swell", 1), [], []),
            (("pull", "down"), [0], []),
            (("leave", "great", 0), [], []),
            (("leave", "swell", 1), [], [0, 2]),
            (("push", "hush"), [1], []),
            (("push", "round"), [], []),
            (("hold", "swell", 1), [0], []),
            (("push", "down"), [], [0]),
        )

    def test_begun_and_ended_by_one_deed(self):
        """Storing swell alone with horn, then pressing it, takes open's pipes away only where all were stored."""
        player = player_behind(("hold", "great", 0), ("hold", "great", 1), ("hold", "swell", 0), ("pull", "horn"),
                               ("store", 0), ("push", "horn"), ("pull", "open"))
        self.check_deeds(player, (("press", 0), [5], [0, 1]))
        player = player_behind(("hold", "great", 2), ("hold", "swell", 3), ("pull", "horn"), ("store", 4), ("cancel",),
                               ("pull", "open"), ("store", 5))
        self.check_deeds(player, (("press", 4), [0], [2]), (("press", 5), [2], [0]), (("press", 5), [], []))

    def test_a_pipe_that_two_bring(self):
        """Pipe 0 is brought by open and key 0 of great, and by horn and key 3 of swell."""
        player = player_behind(("pull", "open"), ("pull", "horn"))
        self.check_deeds(
            player,
            (("hold", "great", 0), [0], []),
            (("hold", "swell", 3), [], []),
            (("leave", "great", 0), [], []),
            (("hold", "great", 0), [], []),
            (("push", "horn"), [], []),
            (("pull", "horn"), [], []),
            (("push", "open"), [], []),
            (("leave", "swell", 3), [], [0]),
            (("pull", "open"), [0], []),
        )

    def test_the_shoe(self):
        player = player_behind(("hold", "great", 1), ("hold", "swell", 0))
        self.check_deeds(
            player,
            (("shoe", 0), [], []),
            (("shoe", 1), [1], []),
            (("shoe", 2), [5], []),
            (("shoe", 3), [], []),
            (("pull", "horn"), [], []),
            (("shoe", 0), [], [1]),
            (("shoe", 3), [1], []),
            (("push", "horn"), [], []),
            (("push", "open"), [], []),
            (("shoe", 1), [], [5]),
            (("cancel",), [], [1]),
            (("cancel",), [], []),
        )

    def test_cancel(self):
        player = player_behind(("pull", "open"), ("pull", "horn"), ("hold", "great", 2), ("hold", "great", 1),
                               ("hold", "swell", 0), ("shoe", 2))
        self.check_deeds(player, (("cancel",), [], [1, 2, 5]))
        self.check_state(player, [], [1, 2, 3], [])
        self.check_deeds(player, (("pull", "open"), [1, 2], []))

    def test_cancel_lets_a_muted_board_stay_silent(self):
        player = player_behind(("hold", "great", 0), ("pull", "hush"), ("pull", "open"))
        self.check_deeds(player, (("cancel",), [], []), (("pull", "open"), [0], []))

    def test_storing_lets_nothing_begin_or_end(self):
        player = player_behind(("hold", "great", 0), ("pull", "open"))
        for deed in (("store", 0), ("store", 9, None), ("store", 1, "great"), ("store", 2, "pedal")):
            self.check_deeds(player, (deed, [], []))
            self.check_state(player, [0], [0], [0])

    def test_store_without_a_board_and_with_none_is_all(self):
        for deed in (("store", 3), ("store", 3, None)):
            player = player_behind(("pull", "open"), ("pull", "still"), deed, ("cancel",), ("pull", "horn"),
                                   ("press", 3))
            self.check_state(player, [], [], [0, 6])

    def test_store_of_a_board(self):
        player = player_behind(("pull", "open"), ("pull", "still"), ("store", 3, "great"), ("cancel",),
                               ("pull", "horn"), ("pull", "hush"), ("press", 3))
        self.check_state(player, [], [], [0, 5])

    def test_every_piston(self):
        player = player_behind(*[("store", number) for number in range(10)], ("pull", "open"), ("hold", "great", 0))
        for number in range(10):
            self.check_deeds(player, (("press", number), [], [0]), (("pull", "open"), [0], []))

    def test_knobs_are_those_in_force(self):
        player = player_behind(("pull", "hush"), ("shoe", 3))
        self.check_state(player, [], [], [0, 1, 3, 5])

    def test_rising_each_once(self):
        """Two stops, of four lines together, bring the same pipes by keys that are held in a falling order."""
        rows = [("board", "a", 5), ("rank", "r", 9, 0), ("rank", "q", 9, 0), ("stop", "s", "a"), ("line", "q", 0, 0, 4),
                ("line", "r", 4, 0, 4), ("stop", "t", "a"), ("line", "r", 0, 0, 4), ("line", "q", 1, 0, 4)]
        player = Player(Organ(rows))
        self.check_deeds(
            player,
            (("pull", "t"), [], []),
            (("hold", "a", 4), [4, 14], []),
            (("hold", "a", 0), [0, 10], []),
            (("pull", "s"), [8, 9, 13], []),
            (("hold", "a", 2), [2, 6, 11, 12], []),
            (("leave", "a", 4), [], [8, 13, 14]),
            (("push", "t"), [], [0, 2, 10, 12]),
        )
        self.check_state(player, [4, 6, 9, 11], [0, 2], [0])

    def test_all_that_the_greatest_organ_has(self):
        organ = Organ(most_rows())
        player = Player(organ)
        for _, name in organ.knobs():
            self.assertEqual(player.do(("pull", name)), ([], []))
        begun = []
        for board, keys in organ.boards():
            for key in range(0, keys, 20):
                told = player.do(("hold", board, key))
                self.assertEqual((sorted(told[0]), told[1]), (told[0], []))
                begun += told[0]
        self.assertEqual(len(begun), len(set(begun)))
        self.assertEqual(sorted(begun), members(player.sound()))
        self.assertEqual(player.do(("cancel",)), ([], sorted(begun)))


class TestLongRuns(PlayerTest):
    def check_behind(self, player, model):
        self.assertEqual(player.held(), bits(model.held()))
        self.assertEqual(player.knobs(), bits(model.knobs()))
        self.assertEqual(player.sound(), bits(model.sound()))

    def do_in_both(self, player, model, deed):
        """Does the deed, checks what is told or refused, and tells what was told, or None where it was refused."""
        ahead, refusal = model.sound(), model.refusal_of(deed)
        if refusal is not None:
            with self.assertRaises(OrganError) as caught:
                player.do(deed)
            self.assertEqual(type(caught.exception).__name__, refusal)
            return None
        told = player.do(deed)
        model.do(deed)
        behind = model.sound()
        self.assertEqual(told, (sorted(behind - ahead), sorted(ahead - behind)))
        return told

    def test_against_a_model_for_many_organs(self):
        done, refused, changes = 0, set(), 0
        for rows, chance in lively_organs(50, 60):
            player, model, together = Player(Organ(rows)), PlayerModel(rows), set()
            for _ in range(150):
                deed = chance_deed(chance, model)
                refusal = model.refusal_of(deed)
                told = self.do_in_both(player, model, deed)
                self.check_behind(player, model)
                if told is None:
                    refused.add(refusal)
                else:
                    together = together - set(told[1]) | set(told[0])
                    changes += told != ([], [])
                    done += 1
                self.assertEqual(sorted(together), members(player.sound()))
        self.assertEqual(refused, {"NoBoard", "NoKey", "NotHeld", "NoKnob", "NoPiston", "NoStep"})
        self.assertGreater(done, 2000)
        self.assertGreater(changes, 500)

    def test_walking_the_relays_and_the_player_tell_the_same(self):
        for rows, chance in lively_organs(51, 20):
            organ, model = Organ(rows), PlayerModel(rows)
            player, together = Player(organ), set()
            for _ in range(30):
                deed = chance_deed(chance, model)
                if model.refusal_of(deed) is None:
                    begun, ended = player.do(deed)
                    model.do(deed)
                    self.assertEqual(together & set(begun), set())
                    self.assertLessEqual(set(ended), together)
                    together = together - set(ended) | set(begun)
                    self.assertEqual(bits(together), player.sound())
                    self.assertEqual(player.sound(), sounding_pipes(organ, player.knobs(), player.held()))
                    self.assertEqual(player.sound(), Relays(organ, player.knobs()).sound(player.held()))


class TestApart(PlayerTest):
    def test_two_players_of_one_organ(self):
        organ = Organ(MIXED)
        one, other = Player(organ), Player(organ)
        for deed in (("hold", "great", 1), ("pull", "open"), ("store", 0), ("shoe", 2)):
            one.do(deed)
        self.check_state(other, [], [], [])
        for deed in (("hold", "great", 1), ("hold", "great", 2), ("pull", "hush"), ("store", 0), ("cancel",)):
            other.do(deed)
        self.check_state(one, [1], [1], [0, 5])
        one.do(("cancel",))
        one.do(("press", 0))
        other.do(("press", 0))
        self.check_state(one, [1], [1], [0])
        self.check_state(other, [], [1, 2], [1])
        other.do(("leave", "great", 1))
        self.check_state(one, [1], [1], [0])
        self.check_state(Player(organ), [], [], [])

    def test_many_deeds_on_several_players(self):
        chance = random.Random(52)
        organ = Organ(MIXED)
        pairs = [(Player(organ), PlayerModel(MIXED)) for _ in range(3)]
        for _ in range(120):
            player, model = chance.choice(pairs)
            deed = chance_deed(chance, model)
            if model.refusal_of(deed) is None:
                player.do(deed)
                model.do(deed)
            for each, wanted in pairs:
                self.check_state(each, wanted.sound(), wanted.held(), wanted.knobs())
        self.assertEqual(organ.rows(), MIXED)

    def test_the_organ_stays(self):
        organ = Organ(MIXED)
        player = Player(organ)
        for deed in (("hold", "great", 0), ("pull", "open"), ("shoe", 3), ("store", 0, "great"), ("press", 0),
                     ("leave", "great", 0), ("cancel",)):
            player.do(deed)
        self.assertEqual(organ.rows(), MIXED)
        self.assertEqual(organ.steps(), [bits([0]), bits([0, 5]), bits([3, 5])])

    def test_nothing_done_behind_the_call_changes_a_player(self):
        rows = list(MIXED)
        organ = Organ(rows)
        player = Player(organ)
        rows.clear()
        for told in (organ.rows(), organ.boards(), organ.ranks(), organ.knobs(), organ.steps()):
            told.clear()
        player.do(("hold", "great", 1))
        player.do(("shoe", 1))
        self.check_state(player, [1], [1], [0])

    def test_told_lists_are_the_askers_own(self):
        player = player_behind(("pull", "open"))
        first = player.do(("hold", "great", 1))
        first[0].append(99)
        first[1].append(98)
        self.check_state(player, [1], [1], [0])
        second = player.do(("hold", "great", 2))
        self.assertEqual(second, ([2], []))
        second[0].clear()
        self.assertEqual(player.do(("leave", "great", 1)), ([], [1]))
        self.assertEqual((first, second), (([1, 99], [98]), ([], [])))
        nothing = player.do(("store", 0))
        nothing[0].append(5)
        nothing[1].append(6)
        self.assertEqual(player.do(("store", 0)), ([], []))
        self.assertEqual(nothing, ([5], [6]))
        self.check_state(player, [2], [2], [0])

    def test_what_is_asked_changes_nothing(self):
        player = player_behind(("pull", "open"), ("hold", "great", 1), ("shoe", 2))
        for _ in range(3):
            self.check_state(player, [1], [1], [0, 5])


if __name__ == "__main__":
    unittest.main()
