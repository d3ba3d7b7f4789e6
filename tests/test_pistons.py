"""Point [14], as far as it tells what a pressed piston puts in the place of what is drawn."""

import inspect
import unittest

from sample_organs import bits
from windchest.pistons import Every, Part, Piston

SETS = (0, 1, bits([0, 3]), bits([40]), bits(range(41)), bits(range(0, 41, 2)))


class TestArguments(unittest.TestCase):
    def test_names_of_arguments(self):
        for made, wanted in ((Piston, ["knobs"]), (Every, ["knobs"]), (Part, ["knobs", "whole"])):
            with self.subTest(made.__name__):
                self.assertEqual(list(inspect.signature(made).parameters), wanted)
                self.assertEqual(list(inspect.signature(made.put).parameters), ["self", "drawn"])

    def test_what_stands_under_what(self):
        for made in (Every, Part):
            self.assertEqual(made.__bases__, (Piston,))
        self.assertIsInstance(Every(3), Piston)
        self.assertIsInstance(Part(3, 7), Piston)


class TestEvery(unittest.TestCase):
    def test_it_puts_just_its_knobs(self):
        for knobs in SETS:
            for drawn in SETS:
                with self.subTest(knobs=knobs, drawn=drawn):
                    self.assertEqual(Every(knobs).put(drawn), knobs)

    def test_again_and_again(self):
        piston = Every(bits([1, 2]))
        self.assertEqual([piston.put(drawn) for drawn in (0, 9, 6, 2 ** 41 - 1, 0)], [6] * 5)


class TestPart(unittest.TestCase):
    def test_no_knobs(self):
        self.assertEqual(Part(0, bits([0, 2])).put(0), 0)
        self.assertEqual(Part(0, bits([0, 2])).put(bits(range(4))), bits([1, 3]))
        self.assertEqual(Part(0, bits([0, 2])).put(bits([1])), bits([1]))
        self.assertEqual(Part(0, bits([0, 2])).put(bits([2])), 0)

    def test_all_knobs(self):
        self.assertEqual(Part(bits([0, 2]), bits([0, 2])).put(0), bits([0, 2]))
        self.assertEqual(Part(bits([0, 2]), bits([0, 2])).put(bits([1, 2])), bits([0, 1, 2]))
        self.assertEqual(Part(bits(range(5)), bits(range(5))).put(0), bits(range(5)))

    def test_some_knobs(self):
        piston = Part(bits([2]), bits([0, 2, 4]))
        self.assertEqual(piston.put(0), bits([2]))
        self.assertEqual(piston.put(bits(range(6))), bits([1, 2, 3, 5]))
        self.assertEqual(piston.put(bits([0, 4])), bits([2]))
        self.assertEqual(piston.put(bits([3, 40])), bits([2, 3, 40]))

    def test_an_empty_whole_leaves_all_as_it_was(self):
        for drawn in SETS:
            self.assertEqual(Part(0, 0).put(drawn), drawn)

    def test_all_small_sets(self):
        for whole in range(16):
            for knobs in [each for each in range(16) if each | whole == whole]:
                for drawn in range(32):
                    told = Part(knobs, whole).put(drawn)
                    self.assertEqual(told, sum(2 ** knob for knob in range(5)
                                               if (knobs if whole >> knob & 1 else drawn) >> knob & 1))

    def test_again_and_again(self):
        piston = Part(bits([1]), bits([0, 1]))
        self.assertEqual([piston.put(drawn) for drawn in (0, 1, 4, 7, 0)], [2, 2, 6, 6, 2])


class TestTwoPistons(unittest.TestCase):
    def test_they_do_not_disturb_each_other(self):
        one, other, every = Part(1, 3), Part(4, 12), Every(9)
        for _ in range(2):
            self.assertEqual([one.put(15), other.put(15), every.put(15)], [13, 7, 9])


if __name__ == "__main__":
    unittest.main()
