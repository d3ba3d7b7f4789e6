"""An organ's rows: which ones are good, each judged by the rows ahead of it."""

from windchest.errors import NoOrgan
from windchest.words import is_name, is_whole

MOST_ROWS = 150
MOST_LINES = 4
# Lines are not among these: they are counted stop by stop.
MOST_OF = {"board": 5, "rank": 12, "stop": 24, "coupler": 12, "mute": 5, "step": 12}
NAMED = ("board", "rank", "stop", "coupler", "mute")

# What stands behind a row's word: "new" is a name that was not told ahead, "board" and "rank" are the name
# of such a thing that was told ahead, and each other one is a number within its bounds.
# A step is not among these, since it has no count of parts.
PARTS = {
    "board": ("new", "keys"),
    "rank": ("new", "pipes", "wind"),
    "stop": ("new", "board"),
    "line": ("rank", "shift", "low", "high"),
    "coupler": ("new", "board", "board", "leap"),
    "mute": ("new", "board"),
}
BOUNDS = {
    "keys": (1, 61),
    "pipes": (1, 97),
    "wind": (0, 1000000000),
    "shift": (-200, 200),
    "low": (0, 60),
    "high": (0, 60),
    "leap": (-60, 60),
}


def rows_of(rows, word):
    return [row for row in rows if row[0] == word]


def is_told(rows, word, thing):
    # A thing of another kind may call itself equal to a name.
    return is_name(thing) and any([row[1] == thing for row in rows_of(rows, word)])


def is_within(thing, bounds):
    return is_whole(thing) and bounds[0] <= thing <= bounds[1]


def is_part(thing, part, ahead):
    if part in BOUNDS:
        return is_within(thing, BOUNDS[part])
    if part == "new":
        return is_name(thing) and not any([is_told(ahead, word, thing) for word in NAMED])
    return is_told(ahead, part, thing)


def has_parts(row, ahead):
    parts = PARTS[row[0]]
    if len(row) != 1 + len(parts):
        return False
    return all([is_part(thing, part, ahead) for thing, part in zip(row[1:], parts)])


def count_of_last_lines(rows):
    count = 0
    for row in reversed(rows):
        if row[0] != "line":
            break
        count = count + 1
    return count


def is_key_of(number, board, ahead):
    return any([row[1] == board and number < row[2] for row in rows_of(ahead, "board")])


def stands_behind_stop(line, ahead):
    count = count_of_last_lines(ahead)
    # Some row ahead is no line: that of the line's rank.
    row = ahead[len(ahead) - 1 - count]
    if row[0] != "stop" or count >= MOST_LINES:
        return False
    return line[3] <= line[4] and is_key_of(line[4], row[2], ahead)


def is_step(row, ahead):
    names = row[1:]
    # Each is seen to be a name first: of what is none Python may not be able to make a set.
    if len(names) == 0 or not all([is_told(ahead, "stop", name) for name in names]):
        return False
    return len(set(names)) == len(names)


def is_well_made(row, ahead):
    if row[0] == "step":
        return is_step(row, ahead)
    if row[0] == "line":
        return has_parts(row, ahead) and stands_behind_stop(row, ahead)
    return row[0] in PARTS and has_parts(row, ahead)


def has_room(word, ahead):
    return word not in MOST_OF or len(rows_of(ahead, word)) < MOST_OF[word]


def is_row(thing, ahead):
    if not isinstance(thing, tuple) or len(thing) == 0 or not isinstance(thing[0], str):
        return False
    return is_well_made(thing, ahead) and has_room(thing[0], ahead)


def check_rows(rows):
    if not isinstance(rows, list) or not 1 <= len(rows) <= MOST_ROWS:
        raise NoOrgan(None)
    for at, row in enumerate(rows):
        if not is_row(row, rows[:at]):
            raise NoOrgan(at)
    if not rows_of(rows, "board"):
        raise NoOrgan(None)
