"""Organs to test with, and a plain model of their boards, knobs and couplers, worked out apart from the program."""

import random

# Every kind of row, in a mixed order, with numbers below nought.
MIXED = [
    ("rank", "flute", 5, 4),
    ("board", "great", 3),
    ("stop", "open", "great"),
    ("line", "flute", 0, 0, 2),
    ("line", "flute", -200, 1, 1),
    ("mute", "hush", "great"),
    ("board", "swell", 4),
    ("coupler", "down", "swell", "great", -1),
    ("rank", "reed", 2, 1000000000),
    ("step", "open"),
    ("stop", "bare", "swell"),
    ("coupler", "round", "great", "great", 2),
    ("stop", "horn", "swell"),
    ("line", "reed", 200, 0, 3),
    ("line", "flute", -3, 3, 3),
    ("line", "reed", 0, 0, 0),
    ("line", "reed", 1, 2, 3),
    ("step", "horn", "open"),
    ("board", "pedal", 1),
    ("mute", "still", "pedal"),
    ("step", "bare", "horn"),
    ("rank", "bass", 1, 0),
]

EXAMPLE_TEXT = "board great 61; rank flute 73 4; stop open great; line flute 12 0 60"
EXAMPLE = [
    ("board", "great", 61), ("rank", "flute", 73, 4), ("stop", "open", "great"), ("line", "flute", 12, 0, 60),
]

KNOB_WORDS = ("stop", "coupler", "mute")

NOT_LISTS = (
    None, True, False, 0, 1, 5, "", "board", "board great 61", (), (("board", "great", 61),),
    {}, {0: ("board", "great", 61)}, {("board", "great", 61)}, b"", 1.0, object(), iter([("board", "great", 61)]),
)


def nth_name(letter, number):
    return letter + chr(ord("a") + number // 26) + chr(ord("a") + number % 26)


def most_rows(line_count=80):
    """As many rows of each kind as may be: 70 without the lines, of which 80 more make 150."""
    rows = [("board", nth_name("b", number), 61) for number in range(5)]
    rows += [("rank", nth_name("r", number), 97, number) for number in range(12)]
    for number in range(24):
        rows.append(("stop", nth_name("s", number), nth_name("b", number % 5)))
        for line in range(min(4, line_count)):
            rows.append(("line", nth_name("r", (number + line) % 12), 12 * line - 30, line, 60 - line))
        line_count -= min(4, line_count)
    rows += [("coupler", nth_name("c", number), nth_name("b", number % 5), nth_name("b", number // 3), number - 6)
             for number in range(12)]
    rows += [("mute", nth_name("m", number), nth_name("b", 4 - number)) for number in range(5)]
    rows += [("step", nth_name("s", number), nth_name("s", number + 1)) for number in range(12)]
    return rows


def chance_rows(chance, most_keys=8):
    boards = [("board", nth_name("b", number), chance.randint(1, most_keys)) for number in range(chance.randint(1, 5))]
    knobs = []
    for number in range(chance.randint(0, 6)):
        first, second = chance.choice(boards), chance.choice(boards)
        knobs.append(("coupler", nth_name("c", number), first[1], second[1], chance.randint(-3, 3)))
    knobs += [("stop", nth_name("s", number), chance.choice(boards)[1]) for number in range(chance.randint(0, 2))]
    knobs += [("mute", nth_name("m", number), chance.choice(boards)[1]) for number in range(chance.randint(0, 2))]
    chance.shuffle(knobs)
    return boards + knobs


def chance_organs(seed, count, most_keys=8):
    chance = random.Random(seed)
    return [(chance_rows(chance, most_keys), chance) for _ in range(count)]


def chance_subset(chance, count):
    share = chance.choice((0, 1, 2, 5, 10))
    return {number for number in range(count) if chance.randint(1, 10) <= share}


def bits(numbers):
    return sum(2 ** number for number in set(numbers))


class Model:
    """Keys are pairs (board's name, key's number) here, and couplers are followed pair by pair."""

    def __init__(self, rows):
        self.boards = {row[1]: row[2] for row in rows if row[0] == "board"}
        self.pairs = [(name, number) for name, keys in self.boards.items() for number in range(keys)]
        self.knobs = [row for row in rows if row[0] in KNOB_WORDS]

    def led(self, knob, key):
        word, _, first, second, shift = self.knobs[knob]
        board, number = self.pairs[key]
        there = (second, number + shift)
        return self.pairs.index(there) if word == "coupler" and board == first and there in self.pairs else None

    def couplers(self, knobs):
        return [knob for knob in sorted(knobs) if self.knobs[knob][0] == "coupler"]

    def led_from(self, knobs, keys):
        told = {self.led(knob, key) for knob in self.couplers(knobs) for key in keys}
        return told - {None}

    def down(self, knobs, held):
        down, more = set(held), set(held)
        while more:
            more = self.led_from(knobs, more) - down
            down |= more
        return down

    def coupled(self, knobs, held):
        return self.led_from(knobs, self.down(knobs, held))
