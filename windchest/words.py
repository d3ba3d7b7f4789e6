"""Whole numbers, names and written numbers."""

from windchest.errors import NoNumber

LETTERS = "abcdefghijklmnopqrstuvwxyz"
FIGURES = "0123456789"
MOST_LETTERS = 8
MOST_FIGURES = 12


def is_whole(thing):
    # True and False are ints to Python, but no whole numbers here.
    return isinstance(thing, int) and not isinstance(thing, bool)


def is_made_of(text, signs, most):
    return 1 <= len(text) <= most and all([sign in signs for sign in text])


def is_name(thing):
    return isinstance(thing, str) and is_made_of(thing, LETTERS, MOST_LETTERS)


def is_number(thing):
    if not isinstance(thing, str):
        return False
    if thing == "0":
        return True
    figures = thing[1:] if thing.startswith("-") else thing
    return is_made_of(figures, FIGURES, MOST_FIGURES) and not figures.startswith("0")


def number_of(text):
    # The refusal does not show the thing: what is refused may be too long to be shown at all.
    if not is_number(text):
        raise NoNumber("this is no written number")
    return int(text)
