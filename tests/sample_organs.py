"""Organs to test with, and a plain model of their keys, knobs and pipes, worked out apart from the program."""

import random
from unittest import mock

# Every kind of row, in a mixed order, with numbers below nought.
MIXED = [
    ("rank", "flute", 5, 4),
    ("board", "great", 3),
    ("stop", "open", "great"),
    ("line", "flute", 0, 0, 2),
    ("line", "flute", -200, 1, 1),
    ("mute", "hush", "great"),
    ("board", "swell", 4),
    ("coupler", "down", "swell", "great", -1),
    ("rank", "reed", 2, 1000000000),
    ("step", "open"),
    ("stop", "bare", "swell"),
    ("coupler", "round", "great", "great", 2),
    ("stop", "horn", "swell"),
    ("line", "reed", 200, 0, 3),
    ("line", "flute", -3, 3, 3),
    ("line", "reed", 0, 0, 0),
    ("line", "reed", 1, 2, 3),
    ("step", "horn", "open"),
    ("board", "pedal", 1),
    ("mute", "still", "pedal"),
    ("step", "bare", "horn"),
    ("rank", "bass", 1, 0),
]

EXAMPLE_TEXT = "board great 61; rank flute 73 4; stop open great; line flute 12 0 60"
EXAMPLE = [
    ("board", "great", 61), ("rank", "flute", 73, 4), ("stop", "open", "great"), ("line", "flute", 12, 0, 60),
]

KNOB_WORDS = ("stop", "coupler", "mute")

NOT_LISTS = (
    None, True, False, 0, 1, 5, "", "board", "board great 61", (), (("board", "great", 61),),
    {}, {0: ("board", "great", 61)}, {("board", "great", 61)}, b"", 1.0, object(), iter([("board", "great", 61)]),
)

# Of a board called "great" none of these is the name, and of other things that are called otherwise neither.
NO_NAMES = (
    None, True, False, 0, 1, 5, -1, "", "Great", "GREAT", "great ", " great", "grea", "greatt", "gre at", "great\n",
    "nothing", "abcdefghi", [], ["great"], (), ("great",), ("board", "great"), {}, {"great": 0}, {"great"}, b"great",
    1.0, object(), mock.ANY,
)


def nth_name(letter, number):
    return letter + chr(ord("a") + number // 26) + chr(ord("a") + number % 26)


def most_rows(line_count=80):
    """As many rows of each kind as may be: 70 without the lines, of which 80 more make 150."""
    rows = [("board", nth_name("b", number), 61) for number in range(5)]
    rows += [("rank", nth_name("r", number), 97, number) for number in range(12)]
    for number in range(24):
        rows.append(("stop", nth_name("s", number), nth_name("b", number % 5)))
        for line in range(min(4, line_count)):
            rows.append(("line", nth_name("r", (number + line) % 12), 12 * line - 30, line, 60 - line))
        line_count -= min(4, line_count)
    rows += [("coupler", nth_name("c", number), nth_name("b", number % 5), nth_name("b", number // 3), number - 6)
             for number in range(12)]
    rows += [("mute", nth_name("m", number), nth_name("b", 4 - number)) for number in range(5)]
    rows += [("step", nth_name("s", number), nth_name("s", number + 1)) for number in range(12)]
    return rows


def chance_line(chance, ranks, board):
    low = chance.randrange(board[2])
    rank = chance.choice(ranks)
    return ("line", rank[1], chance.randint(-board[2], rank[2]), low, chance.randrange(low, board[2]))


def chance_stop(chance, name, ranks, board):
    """A stop's row, and those of its lines right behind it."""
    count = chance.randint(0, 4) if ranks else 0
    return [("stop", name, board[1])] + [chance_line(chance, ranks, board) for _ in range(count)]


def chance_steps(chance, stops):
    names = [rows[0][1] for rows in stops]
    count = chance.randint(0, 3) if names else 0
    return [("step", *chance.sample(names, chance.randint(1, len(names)))) for _ in range(count)]


def chance_rows(chance, most_keys=8):
    boards = [("board", nth_name("b", number), chance.randint(1, most_keys)) for number in range(chance.randint(1, 5))]
    ranks = [("rank", nth_name("r", number), chance.randint(1, 9), number) for number in range(chance.randint(0, 3))]
    stops = [chance_stop(chance, nth_name("s", number), ranks, chance.choice(boards))
             for number in range(chance.randint(0, 4))]
    knobs = list(stops)
    for number in range(chance.randint(0, 6)):
        first, second = chance.choice(boards), chance.choice(boards)
        knobs.append([("coupler", nth_name("c", number), first[1], second[1], chance.randint(-3, 3))])
    knobs += [[("mute", nth_name("m", number), chance.choice(boards)[1])] for number in range(chance.randint(0, 3))]
    chance.shuffle(knobs)
    return boards + ranks + [row for rows in knobs for row in rows] + chance_steps(chance, stops)


def chance_organs(seed, count, most_keys=8):
    chance = random.Random(seed)
    return [(chance_rows(chance, most_keys), chance) for _ in range(count)]


def chance_subset(chance, count):
    share = chance.choice((0, 1, 2, 5, 10))
    return {number for number in range(count) if chance.randint(1, 10) <= share}


def bits(numbers):
    return sum(2 ** number for number in set(numbers))


def members(some):
    return [number for number in range(some.bit_length()) if some >> number & 1]


class Model:
    """Keys are pairs (board's name, key's number) here, pipes likewise, and couplers are followed pair by pair."""

    def __init__(self, rows):
        self.boards = {row[1]: row[2] for row in rows if row[0] == "board"}
        self.pairs = [(name, number) for name, keys in self.boards.items() for number in range(keys)]
        self.pipes = [(row[1], number) for row in rows if row[0] == "rank" for number in range(row[2])]
        self.knobs = [row for row in rows if row[0] in KNOB_WORDS]
        self.lines = {name: [] for _, name, *_ in self.knobs}
        for row in rows:
            if row[0] == "stop":
                stop = row[1]
            elif row[0] == "line":
                self.lines[stop].append(row)

    def led(self, knob, key):
        word, _, first, second, shift = self.knobs[knob]
        board, number = self.pairs[key]
        there = (second, number + shift)
        return self.pairs.index(there) if word == "coupler" and board == first and there in self.pairs else None

    def drawn(self, knobs, word):
        return [knob for knob in sorted(knobs) if self.knobs[knob][0] == word]

    def couplers(self, knobs):
        return self.drawn(knobs, "coupler")

    def led_from(self, knobs, keys):
        told = {self.led(knob, key) for knob in self.couplers(knobs) for key in keys}
        return told - {None}

    def down(self, knobs, held):
        down, more = set(held), set(held)
        while more:
            more = self.led_from(knobs, more) - down
            down |= more
        return down

    def coupled(self, knobs, held):
        return self.led_from(knobs, self.down(knobs, held))

    def is_muted(self, knobs, key):
        return self.pairs[key][0] in [self.knobs[knob][2] for knob in self.drawn(knobs, "mute")]

    def speaking(self, knobs, held):
        return self.coupled(knobs, held) | {key for key in held if not self.is_muted(knobs, key)}

    def brought_by_line(self, knob, line, key):
        """The pipe to which one line of a stop leads a key, or None."""
        _, stop, stops_board = self.knobs[knob]
        _, rank, shift, low, high = self.lines[stop][line]
        board, number = self.pairs[key]
        there = (rank, number + shift)
        if board != stops_board or not low <= number <= high or there not in self.pipes:
            return None
        return self.pipes.index(there)

    def brought(self, knob, key):
        lines = range(len(self.lines[self.knobs[knob][1]]))
        return {self.brought_by_line(knob, line, key) for line in lines} - {None}

    def sounding(self, knobs, held):
        keys = self.speaking(knobs, held)
        return {pipe for knob in self.drawn(knobs, "stop") for key in keys for pipe in self.brought(knob, key)}

    def fault_of_trail(self, knobs, held, key, least, trail):
        """What speaks against it that this is a trail to the key, by point [10]; None where nothing does."""
        if type(trail) is not tuple or len(trail) != 2 or type(trail[1]) is not list:
            return "no tuple of a key and a list"
        first, steps = trail
        if first not in held or len(steps) < least:
            return "its first key is not held, or it has too few steps"
        keys = [first]
        for step in steps:
            if type(step) is not tuple or len(step) != 2 or step[0] not in self.couplers(knobs):
                return f"{step} is no tuple of a drawn coupler and a key"
            if self.led(step[0], keys[-1]) != step[1]:
                return f"{step} does not lead there from {keys[-1]}"
            keys.append(step[1])
        if keys[-1] != key:
            return "it ends at another key"
        if len(set(keys[:-1])) != len(keys[:-1]) or key in keys[1:-1]:
            return "a key comes twice"
        return None
