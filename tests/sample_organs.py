"""Organs and rolls to test with, and plain models of organs, players and rolls, worked out apart from the program."""

import random
from unittest import mock

# Every kind of row, in a mixed order, with numbers below nought.
MIXED = [
    ("rank", "flute", 5, 4),
    ("board", "great", 3),
    ("stop", "open", "great"),
    ("line", "flute", 0, 0, 2),
    ("line", "flute", -200, 1, 1),
    ("mute", "hush", "great"),
    ("board", "swell", 4),
    ("coupler", "down", "swell", "great", -1),
    ("rank", "reed", 2, 1000000000),
    ("step", "open"),
    ("stop", "bare", "swell"),
    ("coupler", "round", "great", "great", 2),
    ("stop", "horn", "swell"),
    ("line", "reed", 200, 0, 3),
    ("line", "flute", -3, 3, 3),
    ("line", "reed", 0, 0, 0),
    ("line", "reed", 1, 2, 3),
    ("step", "horn", "open"),
    ("board", "pedal", 1),
    ("mute", "still", "pedal"),
    ("step", "bare", "horn"),
    ("rank", "bass", 1, 0),
]

EXAMPLE_TEXT = "board great 61; rank flute 73 4; stop open great; line flute 12 0 60"
EXAMPLE = [
    ("board", "great", 61), ("rank", "flute", 73, 4), ("stop", "open", "great"), ("line", "flute", 12, 0, 60),
]

KNOB_WORDS = ("stop", "coupler", "mute")

NOT_LISTS = (
    None, True, False, 0, 1, 5, "", "board", "board great 61", (), (("board", "great", 61),),
    {}, {0: ("board", "great", 61)}, {("board", "great", 61)}, b"", 1.0, object(), iter([("board", "great", 61)]),
)

# Of a board called "great" none of these is the name, and of other things that are called otherwise neither.
NO_NAMES = (
    None, True, False, 0, 1, 5, -1, "", "Great", "GREAT", "great ", " great", "grea", "greatt", "gre at", "great\n",
    "nothing", "abcdefghi", [], ["great"], (), ("great",), ("board", "great"), {}, {"great": 0}, {"great"}, b"great",
    1.0, object(), mock.ANY,
)

# What is no whole number at all, though some of these call themselves equal to one.
NO_WHOLE = (
    None, True, False, "", "0", "1", "one", "open", 0.0, 1.0, 9.0, [], [0], [1], (), (0,), (1,), {}, {0: 0}, {1}, b"1",
    object(), mock.ANY, 1j,
)


def nth_name(letter, number):
    return letter + chr(ord("a") + number // 26) + chr(ord("a") + number % 26)


def most_rows(line_count=80):
    """As many rows of each kind as may be: 70 without the lines, of which 80 more make 150."""
    rows = [("board", nth_name("b", number), 61) for number in range(5)]
    rows += [("rank", nth_name("r", number), 97, number) for number in range(12)]
    for number in range(24):
        rows.append(("stop", nth_name("s", number), nth_name("b", number % 5)))
        for line in range(min(4, line_count)):
            rows.append(("line", nth_name("r", (number + line) % 12), 12 * line - 30, line, 60 - line))
        line_count -= min(4, line_count)
    rows += [("coupler", nth_name("c", number), nth_name("b", number % 5), nth_name("b", number // 3), number - 6)
             for number in range(12)]
    rows += [("mute", nth_name("m", number), nth_name("b", 4 - number)) for number in range(5)]
    rows += [("step", nth_name("s", number), nth_name("s", number + 1)) for number in range(12)]
    return rows


def chance_line(chance, ranks, board):
    low = chance.randrange(board[2])
    rank = chance.choice(ranks)
    return ("line", rank[1], chance.randint(-board[2], rank[2]), low, chance.randrange(low, board[2]))


def chance_stop(chance, name, ranks, board):
    """A stop's row, and those of its lines right behind it."""
    count = chance.randint(0, 4) if ranks else 0
    return [("stop", name, board[1])] + [chance_line(chance, ranks, board) for _ in range(count)]


def chance_steps(chance, stops):
    names = [rows[0][1] for rows in stops]
    count = chance.randint(0, 3) if names else 0
    return [("step", *chance.sample(names, chance.randint(1, len(names)))) for _ in range(count)]


def chance_rows(chance, most_keys=8):
    boards = [("board", nth_name("b", number), chance.randint(1, most_keys)) for number in range(chance.randint(1, 5))]
    ranks = [("rank", nth_name("r", number), chance.randint(1, 9), number) for number in range(chance.randint(0, 3))]
    stops = [chance_stop(chance, nth_name("s", number), ranks, chance.choice(boards))
             for number in range(chance.randint(0, 4))]
    knobs = list(stops)
    for number in range(chance.randint(0, 6)):
        first, second = chance.choice(boards), chance.choice(boards)
        knobs.append([("coupler", nth_name("c", number), first[1], second[1], chance.randint(-3, 3))])
    knobs += [[("mute", nth_name("m", number), chance.choice(boards)[1])] for number in range(chance.randint(0, 3))]
    chance.shuffle(knobs)
    return boards + ranks + [row for rows in knobs for row in rows] + chance_steps(chance, stops)


def chance_organs(seed, count, most_keys=8):
    chance = random.Random(seed)
    return [(chance_rows(chance, most_keys), chance) for _ in range(count)]


def lively_organs(seed, count, most_keys=4):
    """Organs of few keys and many lines, so that something sounds at most times."""
    chance = random.Random(seed)
    found = []
    while len(found) < count:
        rows = chance_rows(chance, most_keys)
        words = [row[0] for row in rows]
        if words.count("board") <= 3 and words.count("line") >= 5 * words.count("board"):
            found.append((rows, chance))
    return found


def chance_subset(chance, count):
    share = chance.choice((0, 1, 2, 5, 10))
    return {number for number in range(count) if chance.randint(1, 10) <= share}


def bits(numbers):
    return sum(2 ** number for number in set(numbers))


def members(some):
    return [number for number in range(some.bit_length()) if some >> number & 1]


class Model:
    """Keys are pairs (board's name, key's number) here, pipes likewise, and couplers are followed pair by pair."""

    def __init__(self, rows):
        self.boards = {row[1]: row[2] for row in rows if row[0] == "board"}
        self.pairs = [(name, number) for name, keys in self.boards.items() for number in range(keys)]
        self.pipes = [(row[1], number) for row in rows if row[0] == "rank" for number in range(row[2])]
        self.knobs = [row for row in rows if row[0] in KNOB_WORDS]
        self.lines = {name: [] for _, name, *_ in self.knobs}
        for row in rows:
            if row[0] == "stop":
                stop = row[1]
            elif row[0] == "line":
                self.lines[stop].append(row)

    def led(self, knob, key):
        word, _, first, second, shift = self.knobs[knob]
        board, number = self.pairs[key]
        there = (second, number + shift)
        return self.pairs.index(there) if word == "coupler" and board == first and there in self.pairs else None

    def drawn(self, knobs, word):
        return [knob for knob in sorted(knobs) if self.knobs[knob][0] == word]

    def couplers(self, knobs):
        return self.drawn(knobs, "coupler")

    def led_from(self, knobs, keys):
        told = {self.led(knob, key) for knob in self.couplers(knobs) for key in keys}
        return told - {None}

    def down(self, knobs, held):
        down, more = set(held), set(held)
        while more:
            more = self.led_from(knobs, more) - down
            down |= more
        return down

    def coupled(self, knobs, held):
        return self.led_from(knobs, self.down(knobs, held))

    def is_muted(self, knobs, key):
        return self.pairs[key][0] in [self.knobs[knob][2] for knob in self.drawn(knobs, "mute")]

    def speaking(self, knobs, held):
        return self.coupled(knobs, held) | {key for key in held if not self.is_muted(knobs, key)}

    def brought_by_line(self, knob, line, key):
        """The pipe to which one line of a stop leads a key, or None."""
        _, stop, stops_board = self.knobs[knob]
        _, rank, shift, low, high = self.lines[stop][line]
        board, number = self.pairs[key]
        there = (rank, number + shift)
        if board != stops_board or not low <= number <= high or there not in self.pipes:
            return None
        return self.pipes.index(there)

    def brought(self, knob, key):
        lines = range(len(self.lines[self.knobs[knob][1]]))
        return {self.brought_by_line(knob, line, key) for line in lines} - {None}

    def sounding(self, knobs, held):
        keys = self.speaking(knobs, held)
        return {pipe for knob in self.drawn(knobs, "stop") for key in keys for pipe in self.brought(knob, key)}

    def fault_of_trail(self, knobs, held, key, least, trail):
        """What speaks against it that this is a trail to the key, by point [10]; None where nothing does."""
        if type(trail) is not tuple or len(trail) != 2 or type(trail[1]) is not list:
            return "no tuple of a key and a list"
        first, steps = trail
        if first not in held or len(steps) < least:
            return "its first key is not held, or it has too few steps"
        keys = [first]
        for step in steps:
            if type(step) is not tuple or len(step) != 2 or step[0] not in self.couplers(knobs):
                return f"{step} is no tuple of a drawn coupler and a key"
            if self.led(step[0], keys[-1]) != step[1]:
                return f"{step} does not lead there from {keys[-1]}"
            keys.append(step[1])
        if keys[-1] != key:
            return "it ends at another key"
        if len(set(keys[:-1])) != len(keys[:-1]) or key in keys[1:-1]:
            return "a key comes twice"
        return None


class PlayerModel:
    """A player by points [11], [14] and [15]: a list of hands, each on a pair as in Model, and names that are drawn."""

    WORDS = {"hold": [2], "leave": [2], "pull": [1], "push": [1], "store": [1, 2], "press": [1], "cancel": [0],
             "shoe": [1]}

    def __init__(self, rows):
        self.model = Model(rows)
        self.steps = [list(row[1:]) for row in rows if row[0] == "step"]
        self.boards_of_knobs = {row[1]: row[2] for row in self.model.knobs}
        self.hands = []
        self.drawn = set()
        self.stored = {}
        self.step = 0

    def held(self):
        return {self.model.pairs.index(pair) for pair in self.hands}

    def knobs(self):
        names = self.drawn.union(*self.steps[:self.step])
        return {number for number, name in enumerate(self.boards_of_knobs) if name in names}

    def sound(self):
        return self.model.sounding(self.knobs(), self.held())

    def do(self, deed):
        word, parts = deed[0], deed[1:]
        if word == "hold":
            self.hands.append(parts)
        elif word == "leave":
            self.hands.remove(parts)
        elif word == "pull":
            self.drawn.add(parts[0])
        elif word == "push":
            self.drawn.discard(parts[0])
        elif word == "store":
            board = parts[1] if len(parts) == 2 else None
            whole = {name for name, first in self.boards_of_knobs.items() if board in (None, first)}
            self.stored[parts[0]] = (self.drawn & whole, whole)
        elif word == "press":
            knobs, whole = self.stored[parts[0]]
            self.drawn = self.drawn - whole | knobs
        elif word == "cancel":
            self.drawn, self.step = set(), 0
        else:
            self.step = parts[0]

    def refusal_of(self, deed):
        """The name of the refusal that this deed, with the word and the parts of one, comes to now, or None."""
        word, parts = deed[0], deed[1:]
        if word in ("hold", "leave"):
            return self.refusal_of_key(word, parts)
        if word in ("pull", "push") and parts[0] not in self.boards_of_knobs:
            return "NoKnob"
        if word in ("store", "press") and parts[0] not in range(10) or word == "press" and parts[0] not in self.stored:
            return "NoPiston"
        if word == "store" and parts[1:] not in ((), (None,)) and parts[1] not in self.model.boards:
            return "NoBoard"
        if word == "shoe" and parts[0] not in range(len(self.steps) + 1):
            return "NoStep"
        return None

    def refusal_of_key(self, word, parts):
        if parts[0] not in self.model.boards:
            return "NoBoard"
        if parts not in self.model.pairs:
            return "NoKey"
        return "NotHeld" if word == "leave" and parts not in self.hands else None


def chance_deed(chance, model):
    """A deed for a PlayerModel, some of them such as are refused, though all their parts are of the right kind."""
    board = chance.choice([*model.model.boards] * 8 + ["nothing"])
    keys = model.model.boards.get(board, 3)
    key = chance.choice([*range(keys)] * 4 + [-1, keys])
    knob = chance.choice([*model.boards_of_knobs] * 8 + ["nothing", board])
    piston = chance.choice((0, 1, 2, 0, 1, 2, 9, 10, -1))
    there = chance.choice(model.hands) if model.hands and chance.randrange(4) else (board, key)
    step = chance.choice([*range(len(model.steps) + 1)] * 4 + [-1, len(model.steps) + 1])
    word = chance.choice(["hold"] * 9 + ["leave"] * 5 + ["pull"] * 8 + ["push"] * 3 + ["store"] * 2 + ["shoe"] * 3
                         + ["press", chance.choice(("press", "cancel", "pull"))])
    return {
        "hold": ("hold", *chance.choice((there, (board, key)))), "leave": ("leave", *there), "pull": ("pull", knob),
        "push": ("push", knob), "press": ("press", piston), "cancel": ("cancel",), "shoe": ("shoe", step),
        "store": ("store", piston, *chance.choice(((), (None,), (board,)))),
    }[word]


def tracks_of(model, keys):
    return model.held() | {keys + knob for knob in model.knobs()}


def chance_play(chance, rows, count, most_step):
    """A play that no player refuses, with its columns, by a model."""
    model, play, columns, tick = PlayerModel(rows), [], [], 0
    keys = len(model.model.pairs)
    for _ in range(count):
        deed = chance_deed(chance, model)
        if model.refusal_of(deed) is None:
            ahead, tick = tick, tick + chance.randint(0, most_step)
            columns += [tracks_of(model, keys)] * (tick - ahead)
            model.do(deed)
            play.append((tick, deed))
    columns += [tracks_of(model, keys)] * chance.randint(1, 4)
    return play, columns


def chance_columns(chance, ticks, tracks, share=None):
    """For each tick the set of the tracks that are open, of so many tracks."""
    share = chance.choice((1, 3, 5, 8)) if share is None else share
    return [{track for track in range(tracks) if chance.randrange(10) < share} for _ in range(ticks)]


def roll_of_columns(columns):
    """The roll that has these sets of tracks open, tick by tick, by point [16]."""
    holes = []
    for track in sorted(set().union(*columns)):
        first = None
        for tick, column in enumerate(columns + [set()]):
            if track in column and first is None:
                first = tick
            elif track not in column and first is not None:
                holes.append((first, track, tick))
                first = None
    return (len(columns), [(track, first, behind) for first, track, behind in sorted(holes)])


def columns_of_holes(length, holes):
    return [{track for track, first, behind in holes if first <= tick < behind} for tick in range(length)]
