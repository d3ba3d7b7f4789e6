"""The console: an organ's knobs, ten pistons and the shoe."""

from windchest.errors import NoBoard, NoKnob, NoPiston, NoStep
from windchest.pistons import Every, Part
from windchest.sets import set_of, union_of
from windchest.words import is_whole

PISTON_COUNT = 10


def knob_named(organ, name):
    knob = organ.knob_number(name)
    if knob is None:
        raise NoKnob("this is no knob's name")
    return set_of([knob])


def board_named(organ, name):
    board = organ.board_number(name)
    if board is None:
        raise NoBoard("this is no board's name")
    return board


def knobs_of_board(organ, name):
    board = board_named(organ, name)
    return set_of([knob for knob in range(len(organ.knobs())) if organ.board_of_knob(knob) == board])


def is_piston(thing):
    return is_whole(thing) and 0 <= thing < PISTON_COUNT


class Console:
    def __init__(self, organ):
        self.organ = organ
        self.drawn_set = 0
        self.shoe_step = 0
        self.stored = {}

    # Whatever the shoe adds is no part of this, so it never tells whether something changed.
    def draw(self, knobs):
        changed = knobs != self.drawn_set
        self.drawn_set = knobs
        return changed

    def pull(self, name):
        return self.draw(self.drawn_set | knob_named(self.organ, name))

    def push(self, name):
        return self.draw(self.drawn_set & ~knob_named(self.organ, name))

    def store(self, piston, board=None):
        if not is_piston(piston):
            raise NoPiston("this is no whole number from 0 to 9")
        if board is None:
            self.stored[piston] = Every(self.drawn_set)
        else:
            whole = knobs_of_board(self.organ, board)
            self.stored[piston] = Part(self.drawn_set & whole, whole)

    def press(self, piston):
        if not is_piston(piston) or piston not in self.stored:
            raise NoPiston("nothing is stored by this")
        self.draw(self.stored[piston].put(self.drawn_set))

    def cancel(self):
        self.draw(0)
        self.shoe_step = 0

    def shoe(self, step):
        if not is_whole(step) or not 0 <= step <= len(self.organ.steps()):
            raise NoStep("this is no step of the shoe")
        self.shoe_step = step

    def drawn(self):
        return self.drawn_set

    def knobs(self):
        return self.drawn_set | union_of(self.organ.steps()[:self.shoe_step])

    def step(self):
        return self.shoe_step
