"""Point [24]: the registrant."""

import inspect
import itertools
import unittest

from sample_organs import (
    KNOB_WORDS, MIXED, Model, bits, chance_organs, chance_subset, lively_organs, members, most_rows,
)
from windchest.errors import OrganError, TooMany
from windchest.organ import Organ
from windchest.pipes import sounding_pipes
from windchest.registrant import wished_knobs

# Key i leads by low to pipe i, by high to pipe i + 3, by both to both, and by bare to nothing; these are the knobs
# 0 to 3, and nothing else is there.
PLAIN = [
    ("board", "a", 3), ("rank", "r", 6, 1), ("stop", "low", "a"), ("line", "r", 0, 0, 2), ("stop", "high", "a"),
    ("line", "r", 3, 0, 2), ("stop", "both", "a"), ("line", "r", 0, 0, 2), ("line", "r", 3, 0, 2),
    ("stop", "bare", "a"),
]


def leading_of(model):
    return [knob for knob, row in enumerate(model.knobs) if row[0] != "stop"]


def every_subset(numbers):
    return [set(some) for count in range(len(numbers) + 1) for some in itertools.combinations(numbers, count)]


def leading_rows(couplers, mutes):
    """An organ with so many couplers and mutes, and one stop ahead of them all."""
    rows = [("board", "a", 4), ("rank", "r", 4, 1), ("stop", "s", "a"), ("line", "r", 0, 0, 3)]
    rows += [("coupler", "c" + letter, "a", "a", place - 3) for place, letter in enumerate("abcdefghijkl"[:couplers])]
    return rows + [("mute", "m" + letter, "a") for letter in "abcde"[:mutes]]


class Checked(unittest.TestCase):
    def check_knobs(self, model, held, wish, knobs):
        self.assertTrue(set(knobs) <= set(range(len(model.knobs))))
        self.assertEqual(model.sounding(knobs, held), wish)
        for stop in model.drawn(knobs, "stop"):
            self.assertNotEqual(model.sounding(set(knobs) - {stop}, held) & wish, wish)

    def check_lacks(self, model, held, wish, lacks):
        stops = [knob for knob, row in enumerate(model.knobs) if row[0] == "stop"]
        self.assertEqual([some for some, _ in lacks], sorted(bits(some) for some in every_subset(leading_of(model))))
        for lack in lacks:
            self.assertEqual([type(lack), type(lack[0]), type(lack[1])], [tuple, int, int])
            keys = model.speaking(members(lack[0]), held)
            self.assertIn(lack[1], wish)
            for stop in stops:
                brought = {pipe for key in keys for pipe in model.brought(stop, key)}
                self.assertTrue(lack[1] not in brought or brought - wish)

    def check(self, rows, held, wish, wanted=None):
        """That what is told holds, by a plain model; and that knobs are told wherever this is wanted."""
        organ, model = Organ(rows), Model(rows)
        told = wished_knobs(organ, bits(held), bits(wish))
        self.assertEqual([type(told), len(told)], [tuple, 2])
        held = {key for key in held if key < len(model.pairs)}
        if told[0] == "knobs":
            self.assertIs(type(told[1]), int)
            self.check_knobs(model, held, set(wish), members(told[1]))
        else:
            self.assertEqual([told[0], type(told[1])], ["lacks", list])
            self.check_lacks(model, held, set(wish), told[1])
        if wanted is not None:
            self.assertEqual(told[0], wanted)
        self.assertEqual(organ.rows(), rows)
        return told


class TestArguments(unittest.TestCase):
    def test_names_of_arguments(self):
        self.assertEqual(list(inspect.signature(wished_knobs).parameters), ["organ", "held", "wish"])


class TestByHand(Checked):
    def test_no_wished_pipes(self):
        for rows in (PLAIN, MIXED, [("board", "a", 1)], leading_rows(0, 0), leading_rows(3, 3)):
            for held in ([], [0], [0, 1, 2]):
                told = self.check(rows, held, [], "knobs")
                self.assertEqual(Model(rows).drawn(members(told[1]), "stop"), [])

    def test_stops_alone(self):
        self.assertEqual(self.check(PLAIN, [0], [0]), ("knobs", 1))
        self.assertEqual(self.check(PLAIN, [0], [3]), ("knobs", 2))
        self.assertEqual(self.check(PLAIN, [0, 2], [3, 5]), ("knobs", 2))

    def test_no_stop_too_many(self):
        told = self.check(PLAIN, [1], [1, 4], "knobs")
        self.assertIn(told[1], (bits([0, 1]), bits([2])))

    def test_each_of_several_stops_is_needed(self):
        """Each stop brings two neighbours of five pipes: without the ones at both ends a pipe would lack."""
        rows = [("board", "a", 1), ("rank", "r", 5, 1)]
        for place, letter in enumerate("bcde"):
            rows += [("stop", letter, "a"), ("line", "r", place, 0, 0), ("line", "r", place + 1, 0, 0)]
        told = self.check(rows, [0], range(5), "knobs")
        self.assertIn(told[1], (bits([0, 1, 3]), bits([0, 2, 3])))
        self.assertEqual(self.check(rows, [0], [0, 1]), ("knobs", 1))
        self.assertEqual(self.check(rows, [0], [0, 1, 2, 3])[1], bits([0, 2]))
        self.assertEqual(self.check(rows, [0], [0, 1, 2])[1], bits([0, 1]))

    def test_two_stops_that_bring_the_same(self):
        rows = [("board", "a", 1), ("rank", "r", 1, 1)]
        for letter in "bcd":
            rows += [("stop", letter, "a"), ("line", "r", 0, 0, 0)]
        self.assertIn(self.check(rows, [0], [0], "knobs")[1], (1, 2, 4))

    def test_a_stop_that_brings_an_unwished_pipe_too(self):
        self.assertEqual(self.check(PLAIN[:4], [0, 1], [0]), ("lacks", [(0, 0)]))
        self.assertEqual(self.check(PLAIN[:4], [0, 1], [1]), ("lacks", [(0, 1)]))
        rows = PLAIN[:2] + PLAIN[6:9]
        self.assertIn(self.check(rows, [0], [0], "lacks")[1], ([(0, 0)],))

    def test_no_key_is_held(self):
        self.check(PLAIN, [], [0], "lacks")
        self.check(PLAIN, [], [], "knobs")
        self.check(leading_rows(2, 2), [], [0], "lacks")

    def test_without_stops_or_knobs(self):
        self.assertEqual(self.check([("board", "a", 1), ("rank", "r", 2, 1)], [0], [1]), ("lacks", [(0, 1)]))
        self.assertEqual(self.check([("board", "a", 1)], [0], []), ("knobs", 0))

    def test_wished_members_that_are_no_pipes(self):
        for beyond in (6, 7, 100, 1198, 1199):
            self.assertEqual(self.check(PLAIN, [0], [beyond]), ("lacks", [(0, beyond)]))
            self.assertEqual(self.check(PLAIN, [0], [0, beyond]), ("lacks", [(0, beyond)]))
            self.assertEqual(len(self.check(leading_rows(2, 1), [0], [beyond], "lacks")[1]), 8)
        self.assertEqual(self.check([("board", "a", 1)], [0], [0]), ("lacks", [(0, 0)]))

    def test_held_members_that_are_no_keys(self):
        self.assertEqual(self.check(PLAIN, [0, 3, 1199], [0]), ("knobs", 1))

    def test_a_coupler_is_needed(self):
        """Knob 0 leads key 0 of one board to key 0 of the other one, knob 2 is the only stop."""
        rows = [("board", "a", 1), ("board", "b", 1), ("rank", "r", 1, 1), ("coupler", "c", "a", "b", 0),
                ("mute", "m", "b"), ("stop", "s", "b"), ("line", "r", 0, 0, 0)]
        told = self.check(rows, [0], [0], "knobs")
        self.assertIn(told[1], (bits([0, 2]), bits([0, 1, 2])))
        self.assertEqual(self.check(rows[:3] + rows[4:], [0], [0], "lacks"), ("lacks", [(0, 0), (1, 0)]))

    def test_a_mute_is_needed(self):
        """Held is key 0; key 1 is coupled, and it alone shall speak."""
        rows = [("board", "a", 2), ("rank", "r", 2, 1), ("coupler", "c", "a", "a", 1), ("stop", "s", "a"),
                ("line", "r", 0, 0, 1), ("mute", "m", "a")]
        self.assertEqual(self.check(rows, [0], [1]), ("knobs", bits([0, 1, 2])))
        self.assertEqual(self.check(rows, [0], [0, 1]), ("knobs", bits([0, 1])))
        self.assertEqual(self.check(rows, [0], [0]), ("knobs", bits([1])))
        self.assertEqual(self.check(rows, [1], [0]), ("lacks", [(0, 0), (1, 0), (4, 0), (5, 0)]))

    def test_couplers_that_spoil_it_are_not_drawn(self):
        rows = [("board", "a", 3), ("rank", "r", 3, 1), ("coupler", "c", "a", "a", 1), ("coupler", "d", "a", "a", 2),
                ("stop", "s", "a"), ("line", "r", 0, 0, 2)]
        self.assertEqual(self.check(rows, [0], [0]), ("knobs", 4))
        self.assertEqual(self.check(rows, [0], [0, 2]), ("knobs", 6))
        self.assertEqual(self.check(rows, [0], [0, 1, 2], "knobs")[1] & 5, 5)
        self.check(rows, [0], [0, 1], "lacks")

    def test_sets_rise_where_the_knobs_are_mixed(self):
        """Stops are the knobs 0, 2 and 5: the sets are those of 1, 3, 4 and 6."""
        rows = [("board", "a", 2), ("rank", "r", 2, 1), ("stop", "s", "a"), ("mute", "m", "a"), ("stop", "t", "a"),
                ("coupler", "c", "a", "a", 1), ("mute", "n", "a"), ("stop", "u", "a"), ("coupler", "d", "a", "a", -1)]
        lacks = self.check(rows, [0], [0, 1], "lacks")[1]
        self.assertEqual([some for some, _ in lacks],
                         [0, 2, 8, 10, 16, 18, 24, 26, 64, 66, 72, 74, 80, 82, 88, 90])


class TestTooMany(Checked):
    def test_six_together(self):
        for couplers in range(1, 7):
            rows = leading_rows(couplers, 6 - couplers)
            self.check(rows, [0], [0], "knobs")
            self.assertEqual(len(self.check(rows, [0], [0, 4], "lacks")[1]), 64)

    def test_seven_and_more(self):
        for couplers, mutes in ((7, 0), (6, 1), (5, 2), (4, 3), (3, 4), (2, 5), (12, 0), (12, 5), (8, 1)):
            organ = Organ(leading_rows(couplers, mutes))
            for held in (0, 1, 15):
                for wish in (0, 1, 1 << 1199):
                    with self.assertRaises(OrganError) as caught:
                        wished_knobs(organ, held, wish)
                    self.assertIs(type(caught.exception), TooMany)
            self.assertEqual(organ.rows(), leading_rows(couplers, mutes))

    def test_stops_and_steps_do_not_count(self):
        rows = [row for row in most_rows() if row[0] not in ("coupler", "mute")]
        organ = Organ(rows + [row for row in most_rows() if row[0] in ("coupler", "mute")][9:15])
        held = bits(range(0, 305, 7))
        wish = sounding_pipes(organ, bits(range(24)), held)
        told = wished_knobs(organ, held, wish)
        self.assertEqual(told[0], "knobs")
        self.assertEqual(sounding_pipes(organ, told[1], held), wish)
        for stop in [knob for knob in members(told[1]) if knob < 24]:
            self.assertNotEqual(sounding_pipes(organ, told[1] & ~(1 << stop), held), wish)
        self.assertEqual(len(wished_knobs(organ, held, wish | 1 << 1199)[1]), 64)


class TestAgainstAllSetsOfKnobs(Checked):
    def small(self, organs):
        """Organs of at most six couplers and mutes, and of so few knobs that all sets of them may be looked at."""
        for rows, chance in organs:
            words = [row[0] for row in rows]
            knobs = [word for word in words if word in KNOB_WORDS]
            if len(knobs) <= 8 and len(knobs) - words.count("stop") <= 6:
                yield rows, chance, Model(rows)

    def check_wish(self, rows, model, held, wish):
        sounds = [model.sounding(some, held) for some in every_subset(range(len(model.knobs)))]
        return self.check(rows, held, wish, "knobs" if set(wish) in sounds else "lacks")[0]

    def test_wishes_that_some_knobs_fulfil(self):
        seen = 0
        for rows, chance, model in self.small(lively_organs(120, 200)):
            for _ in range(4):
                held = chance_subset(chance, len(model.pairs))
                wish = model.sounding(chance_subset(chance, len(model.knobs)), held)
                self.assertEqual(self.check(rows, held, wish)[0], "knobs")
                seen += wish != set()
        self.assertGreater(seen, 30)

    def test_any_wishes(self):
        told = []
        for rows, chance, model in self.small(lively_organs(121, 120)):
            for _ in range(3):
                held = chance_subset(chance, len(model.pairs))
                told.append(self.check_wish(rows, model, held, chance_subset(chance, len(model.pipes))))
        self.assertGreater(told.count("lacks"), 30)
        self.assertGreater(told.count("knobs"), 10)

    def test_wishes_next_to_some_that_are_fulfilled(self):
        """One pipe more or less than what sounds by some knobs."""
        told = []
        for rows, chance, model in self.small(lively_organs(122, 150)):
            held = chance_subset(chance, len(model.pairs)) | {0}
            wish = model.sounding(set(range(len(model.knobs))) - {chance.randrange(9)}, held)
            for pipe in chance.sample(range(len(model.pipes)), min(3, len(model.pipes))):
                told.append(self.check_wish(rows, model, held, wish ^ {pipe}))
        self.assertGreater(told.count("lacks"), 20)
        self.assertGreater(told.count("knobs"), 5)

    def test_organs_of_every_kind(self):
        told = []
        for rows, chance, model in self.small(chance_organs(123, 60, 4)):
            held = chance_subset(chance, len(model.pairs))
            wish = model.sounding(chance_subset(chance, len(model.knobs)), held)
            told.append(self.check(rows, held, wish, "knobs"))
            wish = chance_subset(chance, len(model.pipes) + 1)
            told.append(self.check_wish(rows, model, held, wish))
        self.assertGreater(len(told), 30)


class TestOwn(Checked):
    def test_each_list_is_new(self):
        organ = Organ(PLAIN[:4])
        one, other = wished_knobs(organ, 1, 2), wished_knobs(organ, 1, 2)
        one[1].append("more")
        self.assertEqual(other, ("lacks", [(0, 1)]))
        self.assertEqual(wished_knobs(organ, 1, 2), ("lacks", [(0, 1)]))


if __name__ == "__main__":
    unittest.main()
