"""The interface's first rows, and the values of points [6] and [18]."""

import unittest

from windchest import errors

MADE_OF_A_TEXT = (
    "NoNumber", "NoSet", "NoKnob", "NoPiston", "NoBoard", "NoKey", "NotHeld", "NoStep",
    "NoDeed", "NoRoll", "TooMany", "NoRow", "Unknown",
)
MADE_OF_ONE_THING = (("NoOrgan", "at"), ("NoPlay", "place"))
ALL_REFUSALS = MADE_OF_A_TEXT + tuple(name for name, _ in MADE_OF_ONE_THING)


def refusal(name):
    return getattr(errors, name)


class TestRefusals(unittest.TestCase):
    def test_organ_error_is_a_value_error(self):
        self.assertTrue(issubclass(errors.OrganError, ValueError))
        self.assertIsNot(errors.OrganError, ValueError)
        with self.assertRaises(ValueError):
            raise errors.OrganError("words")

    def test_each_is_an_organ_error_and_a_value_error(self):
        for name in ALL_REFUSALS:
            with self.subTest(name):
                self.assertTrue(issubclass(refusal(name), errors.OrganError))
                self.assertTrue(issubclass(refusal(name), ValueError))
                self.assertIsNot(refusal(name), errors.OrganError)

    def test_none_stands_under_another_one(self):
        for one in ALL_REFUSALS:
            for other in ALL_REFUSALS:
                if one != other:
                    with self.subTest(one=one, other=other):
                        self.assertFalse(issubclass(refusal(one), refusal(other)))

    def test_those_made_of_a_text_are_raised_and_taken(self):
        for name in MADE_OF_A_TEXT:
            for taken in (refusal(name), errors.OrganError, ValueError):
                with self.subTest(name, taken=taken):
                    with self.assertRaises(taken):
                        raise refusal(name)("some words")

    def test_those_made_of_one_thing_are_raised_and_taken(self):
        for name, _ in MADE_OF_ONE_THING:
            for taken in (refusal(name), errors.OrganError, ValueError):
                with self.subTest(name, taken=taken):
                    with self.assertRaises(taken):
                        raise refusal(name)(None)


class TestValues(unittest.TestCase):
    def test_the_value_is_the_very_thing(self):
        for name, value in MADE_OF_ONE_THING:
            for thing in (0, 1, 7, 149, 199, -1, 10 ** 30, None):
                with self.subTest(name, thing=thing):
                    self.assertIs(getattr(refusal(name)(thing), value), thing)

    def test_the_value_is_there_when_the_error_is_taken(self):
        for name, value in MADE_OF_ONE_THING:
            for thing in (0, 12, None):
                with self.subTest(name, thing=thing):
                    with self.assertRaises(refusal(name)) as taken:
                        raise refusal(name)(thing)
                    self.assertIs(getattr(taken.exception, value), thing)

    def test_two_made_apart_have_values_apart(self):
        for name, value in MADE_OF_ONE_THING:
            with self.subTest(name):
                one = refusal(name)(3)
                other = refusal(name)(None)
                third = refusal(name)(4)
                told = [getattr(each, value) for each in (one, other, third)]
                self.assertEqual(told, [3, None, 4])


if __name__ == "__main__":
    unittest.main()
