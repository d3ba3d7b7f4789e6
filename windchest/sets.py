"""Sets of numbers from 0 to 1199, each kept as the bits of one whole number."""

from windchest.errors import NoSet
from windchest.words import is_whole

MEMBERS_BELOW = 1200


def may_be_member(thing):
    return is_whole(thing) and 0 <= thing < MEMBERS_BELOW


def set_of(numbers):
    if not isinstance(numbers, list) or not all([may_be_member(thing) for thing in numbers]):
        raise NoSet("this is no list of whole numbers from 0 to 1199")
    some = 0
    for number in numbers:
        some = some | (1 << number)
    return some


def has_member(some, number):
    # The bound keeps the shift small: the number asked for may be far beyond every set.
    return 0 <= number < some.bit_length() and (some >> number) & 1 == 1


def members_of(some):
    return [number for number in range(some.bit_length()) if has_member(some, number)]


def count_of(some):
    return len(members_of(some))


def shifted(some, steps, count):
    moved = some << steps if steps > 0 else some >> -steps
    # No number is below a count of 0 or less, and Python shifts by none below 0.
    return moved & ((1 << max(count, 0)) - 1)


def union_of(sets):
    some = 0
    for each in sets:
        some = some | each
    return some
