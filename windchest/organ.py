"""An organ: its boards, ranks, knobs and steps, and how all of them are numbered."""

from windchest.rows import check_rows, rows_of
from windchest.sets import set_of
from windchest.words import is_name

KNOBS = ("stop", "coupler", "mute")


def numbers_of(names):
    numbers = {}
    for number, name in enumerate(names):
        numbers[name] = number
    return numbers


# Of boards and of ranks alike the second part tells how many keys or pipes there are.
def count_in_all(things):
    return sum([thing[1] for thing in things])


def places_of(things):
    places = []
    for number, thing in enumerate(things):
        places.extend([(number, each) for each in range(thing[1])])
    return places


def lines_by_knob(rows, rank_numbers):
    lines = []
    for row in rows:
        if row[0] in KNOBS:
            lines.append([])
        if row[0] == "line":
            # A line stands right behind its stop, so that one is the last knob here.
            lines[-1].append((rank_numbers[row[1]], row[2], row[3], row[4]))
    return lines


def set_of_step(row, knob_numbers):
    return set_of([knob_numbers[name] for name in row[1:]])


class Organ:
    def __init__(self, rows):
        check_rows(rows)
        self.row_list = list(rows)
        self.board_list = [(row[1], row[2]) for row in rows_of(rows, "board")]
        self.rank_list = [(row[1], row[2], row[3]) for row in rows_of(rows, "rank")]
        self.knob_rows = [row for row in rows if row[0] in KNOBS]
        self.board_numbers = numbers_of([board[0] for board in self.board_list])
        self.rank_numbers = numbers_of([rank[0] for rank in self.rank_list])
        self.knob_numbers = numbers_of([row[1] for row in self.knob_rows])
        self.key_places = places_of(self.board_list)
        self.pipe_places = places_of(self.rank_list)
        self.knob_lines = lines_by_knob(rows, self.rank_numbers)
        self.step_sets = [set_of_step(row, self.knob_numbers) for row in rows_of(rows, "step")]

    def rows(self):
        return list(self.row_list)

    def boards(self):
        return list(self.board_list)

    def ranks(self):
        return list(self.rank_list)

    def knobs(self):
        return [(row[0], row[1]) for row in self.knob_rows]

    def key_count(self):
        return len(self.key_places)

    def pipe_count(self):
        return len(self.pipe_places)

    def key(self, board, number):
        return count_in_all(self.board_list[:self.board_numbers[board]]) + number

    def board_of(self, key):
        return self.key_places[key]

    def pipe(self, rank, number):
        return count_in_all(self.rank_list[:self.rank_numbers[rank]]) + number

    def rank_of(self, pipe):
        return self.pipe_places[pipe]

    def board_number(self, name):
        # Of a list or a dict Python could not look for it.
        return self.board_numbers.get(name) if is_name(name) else None

    def knob_number(self, name):
        return self.knob_numbers.get(name) if is_name(name) else None

    # The rows of all three kinds of knobs tell this board in the same place, of couplers the first one.
    def board_of_knob(self, knob):
        return self.board_numbers[self.knob_rows[knob][2]]

    def stop(self, knob):
        return (self.board_of_knob(knob), list(self.knob_lines[knob]))

    def coupler(self, knob):
        row = self.knob_rows[knob]
        return (self.board_of_knob(knob), self.board_numbers[row[3]], row[4])

    def mute(self, knob):
        return self.board_of_knob(knob)

    def steps(self):
        return list(self.step_sets)
