"""Points [5], sets, and [3], whose lists are whose."""

import inspect
import unittest

from windchest import sets
from windchest.errors import NoSet
from windchest.sets import count_of, has_member, members_of, set_of, shifted

LISTS = (
    [], [0], [1], [5], [1199], [0, 1199], [1199, 0], [0, 1], [1, 0], [3, 1, 2], [7, 7], [7, 7, 7, 3, 7],
    [0, 0, 0], [1199, 1199], [63, 64, 65], [31, 32, 33, 29, 30], list(range(1200)),
    list(range(1199, -1, -1)), list(range(0, 1200, 7)) + list(range(0, 1200, 11)),
)


def bits_of(numbers):
    return sum(2 ** number for number in set(numbers))


class TestArguments(unittest.TestCase):
    def test_names_of_arguments(self):
        for name, wanted in (("set_of", ["numbers"]), ("members_of", ["some"]), ("count_of", ["some"]),
                             ("has_member", ["some", "number"]), ("shifted", ["some", "steps", "count"])):
            with self.subTest(name):
                self.assertEqual(list(inspect.signature(getattr(sets, name)).parameters), wanted)


class TestSetOf(unittest.TestCase):
    def test_the_bits_of_the_numbers(self):
        for numbers in LISTS:
            with self.subTest(numbers[:5]):
                self.assertEqual(set_of(numbers), bits_of(numbers))

    def test_some_written_out(self):
        self.assertEqual(set_of([]), 0)
        self.assertEqual(set_of([0]), 1)
        self.assertEqual(set_of([2, 0, 2]), 5)
        self.assertEqual(set_of([1199]), 2 ** 1199)
        self.assertEqual(set_of(list(range(1200))), 2 ** 1200 - 1)

    def test_it_is_a_whole_number(self):
        for numbers in LISTS:
            self.assertIs(type(set_of(numbers)), int)

    def test_each_number_alone(self):
        for number in range(1200):
            self.assertEqual(set_of([number]), 2 ** number)

    def test_the_list_stays_as_it_was(self):
        for numbers in LISTS:
            kept = list(numbers)
            set_of(numbers)
            self.assertEqual(numbers, kept)

    def test_what_is_done_to_the_list_later_changes_nothing(self):
        numbers = [4, 2]
        some = set_of(numbers)
        numbers.append(9)
        self.assertEqual(some, 20)

    def test_wrong_members(self):
        for thing in (-1, 1200, -2, 1201, 2 ** 64, -2 ** 64, 10 ** 30, -10 ** 30, 10 ** 3000, True, False,
                      None, "", "1", "a", [], [1], (), (1,), {}, 1.0, b"1", object()):
            for numbers in ([thing], [thing, 3], [3, thing], [3, thing, 5], [0, 1199, thing]):
                with self.subTest(place=numbers.index(thing), of=len(numbers)):
                    kept = list(numbers)
                    self.assertRaises(NoSet, set_of, numbers)
                    self.assertEqual(numbers, kept)

    def test_truths_beside_numbers_like_them(self):
        for numbers in ([1, True], [True, 1], [0, False], [False, 0]):
            with self.subTest(numbers):
                self.assertRaises(NoSet, set_of, numbers)

    def test_things_that_are_no_list(self):
        for thing in (None, True, False, 0, 1, 5, -1, 2 ** 1200, "", "1", "abc", (), (1,), (1, 2), {}, {1: 2},
                      {1, 2}, frozenset([1]), range(3), b"", b"12", object(), 1.0, iter([1])):
            with self.subTest(repr(thing)[:20]):
                self.assertRaises(NoSet, set_of, thing)


class TestMembers(unittest.TestCase):
    def test_members_rise_each_once(self):
        for numbers in LISTS:
            with self.subTest(numbers[:5]):
                told = members_of(set_of(numbers))
                self.assertIs(type(told), list)
                self.assertEqual(told, sorted(set(numbers)))

    def test_members_of_small_sets(self):
        for some in range(600):
            wanted = [number for number in range(10) if some // 2 ** number % 2 == 1]
            self.assertEqual(members_of(some), wanted)
            self.assertEqual(count_of(some), len(wanted))
            self.assertEqual(set_of(wanted), some)

    def test_count(self):
        for numbers in LISTS:
            with self.subTest(numbers[:5]):
                self.assertEqual(count_of(set_of(numbers)), len(set(numbers)))
        self.assertEqual(count_of(0), 0)
        self.assertEqual(count_of(2 ** 1200 - 1), 1200)

    def test_a_told_list_is_the_askers_own(self):
        some = set_of([3, 5, 1199])
        told = members_of(some)
        told.append(7)
        told[0] = 4
        self.assertEqual(members_of(some), [3, 5, 1199])
        self.assertEqual(count_of(some), 3)
        self.assertIs(has_member(some, 7), False)
        self.assertEqual(told, [4, 5, 1199, 7])
        self.assertIsNot(members_of(some), members_of(some))

    def test_a_told_list_of_the_empty_set_is_the_askers_own(self):
        members_of(0).append(1)
        self.assertEqual(members_of(0), [])
        self.assertEqual(set_of([]), 0)


class TestHasMember(unittest.TestCase):
    def test_members_and_their_neighbours(self):
        for numbers in LISTS:
            some = set_of(numbers)
            asked = sorted({near for number in numbers for near in (number - 1, number, number + 1)} | {0, 1})
            for number in asked:
                self.assertIs(has_member(some, number), number in set(numbers), (numbers[:5], number))

    def test_all_numbers_of_a_set(self):
        some = set_of([0, 2, 600, 1199])
        self.assertEqual([number for number in range(-1300, 2600) if has_member(some, number)], [0, 2, 600, 1199])

    def test_numbers_below_nought(self):
        for some in (0, 1, 5, 2 ** 1199, 2 ** 1200 - 1):
            for number in (-1, -2, -3, -1199, -1200, -1201, -2 ** 64, -10 ** 30, -10 ** 3999):
                self.assertIs(has_member(some, number), False)

    def test_numbers_far_beyond(self):
        for some in (0, 1, 5, 2 ** 1199, 2 ** 1200 - 1):
            for number in (1200, 1201, 2400, 10 ** 9, 2 ** 63, 2 ** 64, 10 ** 30, 10 ** 3999):
                self.assertIs(has_member(some, number), False)


class TestShifted(unittest.TestCase):
    def check(self, numbers, steps, count):
        wanted = {number + steps for number in numbers if 0 <= number + steps < count}
        with self.subTest(numbers=numbers[:5], steps=steps, count=count):
            self.assertEqual(shifted(set_of(numbers), steps, count), bits_of(wanted))

    def test_some_written_out(self):
        self.assertEqual(shifted(set_of([0, 3, 5]), 2, 7), set_of([2, 5]))
        self.assertEqual(shifted(set_of([0, 3, 5]), 2, 8), set_of([2, 5, 7]))
        self.assertEqual(shifted(set_of([0, 3, 5]), -3, 61), set_of([0, 2]))
        self.assertEqual(shifted(set_of([0, 3, 5]), -4, 61), set_of([1]))
        self.assertEqual(shifted(set_of([0, 3, 5]), 0, 61), set_of([0, 3, 5]))
        self.assertEqual(shifted(set_of([0, 3, 5]), 0, 5), set_of([0, 3]))

    def test_many_steps_and_counts(self):
        for numbers in LISTS:
            for steps in (0, 1, 2, 12, 60, 600, 1199, 1200, -1, -2, -12, -60, -600, -1199, -1200):
                for count in (0, 1, 2, 12, 61, 600, 1199, 1200):
                    self.check(numbers, steps, count)

    def test_counts_about_a_members_new_number(self):
        for member in (0, 1, 7, 60, 600, 1199):
            for steps in (-1200, -600, -7, -1, 0, 1, 7, 600, 1200):
                for count in (member + steps - 1, member + steps, member + steps + 1):
                    if 0 <= count <= 1200:
                        self.check([member], steps, count)
                        self.check([member, 3], steps, count)

    def test_members_that_fall_below_nought(self):
        self.assertEqual(shifted(set_of([0]), -1, 1200), 0)
        self.assertEqual(shifted(set_of([0, 1, 2]), -2, 1200), 1)
        self.assertEqual(shifted(set_of([1199]), -1199, 1200), 1)
        self.assertEqual(shifted(set_of([1199]), -1200, 1200), 0)
        self.assertEqual(shifted(2 ** 1200 - 1, -1200, 1200), 0)

    def test_farthest_steps_up(self):
        self.assertEqual(shifted(set_of([0]), 1199, 1200), 2 ** 1199)
        self.assertEqual(shifted(set_of([0]), 1199, 1199), 0)
        self.assertEqual(shifted(2 ** 1200 - 1, 1200, 1200), 0)

    def test_the_empty_set(self):
        for steps in (-1200, -1, 0, 1, 1200):
            for count in (0, 1, 1200):
                self.assertEqual(shifted(0, steps, count), 0)

    def test_somewhat_beyond_the_bounds_nothing_is_refused(self):
        self.assertEqual(shifted(set_of([0, 5]), 0, -1), 0)
        self.assertEqual(shifted(set_of([0, 5]), 3, -5), 0)
        self.assertEqual(shifted(set_of([0, 1199]), -1201, 1200), 0)
        self.assertEqual(shifted(set_of([0, 1199]), 1201, 1200), 0)
        self.assertEqual(shifted(set_of([0, 1199]), 0, 1201), set_of([0, 1199]))


if __name__ == "__main__":
    unittest.main()
