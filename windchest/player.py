"""The player: a console, the hands that hold keys, and the deeds that tell which pipes begin and end."""

from windchest.console import Console, board_named
from windchest.errors import NoDeed, NoKey, NotHeld
from windchest.pipes import sounding_pipes
from windchest.sets import members_of, set_of
from windchest.words import is_whole

# How many parts a deed may have, its word among them.
PART_COUNTS = {
    "hold": (3,), "leave": (3,), "pull": (2,), "push": (2,), "store": (2, 3), "press": (2,), "cancel": (1,),
    "shoe": (2,),
}


def is_deed(thing):
    # The word comes first: of a list or a dict Python could not look for it.
    if not isinstance(thing, tuple) or not thing or not isinstance(thing[0], str):
        return False
    return len(thing) in PART_COUNTS.get(thing[0], ())


def key_on_board(organ, name, number):
    board = organ.boards()[board_named(organ, name)]
    if not is_whole(number) or not 0 <= number < board[1]:
        raise NoKey("this is no key's number on its board")
    return organ.key(name, number)


def do_at_console(console, word, parts):
    if word == "pull":
        console.pull(parts[0])
    elif word == "push":
        console.push(parts[0])
    elif word == "store":
        console.store(parts[0], parts[1] if len(parts) == 2 else None)
    elif word == "press":
        console.press(parts[0])
    elif word == "cancel":
        console.cancel()
    else:
        console.shoe(parts[0])


class Player:
    def __init__(self, organ):
        self.organ = organ
        self.console = Console(organ)
        self.hands = {}

    def hold(self, key):
        self.hands[key] = self.hands.get(key, 0) + 1

    def leave(self, key):
        if self.hands.get(key, 0) == 0:
            raise NotHeld("no hand holds this key")
        self.hands[key] = self.hands[key] - 1

    # Apart from do, for those who need not know what sounds: that is by far the greater part of the work.
    def act(self, deed):
        if not is_deed(deed):
            raise NoDeed("this is no deed's word with as many parts")
        if deed[0] == "hold":
            self.hold(key_on_board(self.organ, deed[1], deed[2]))
        elif deed[0] == "leave":
            self.leave(key_on_board(self.organ, deed[1], deed[2]))
        else:
            do_at_console(self.console, deed[0], deed[1:])

    def do(self, deed):
        ahead = self.sound()
        self.act(deed)
        behind = self.sound()
        return (members_of(behind & ~ahead), members_of(ahead & ~behind))

    def sound(self):
        return sounding_pipes(self.organ, self.knobs(), self.held())

    def held(self):
        return set_of([key for key, count in self.hands.items() if count > 0])

    def knobs(self):
        return self.console.knobs()
