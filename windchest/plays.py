"""Plays: deeds by ticks, cut into rolls, and how a roll sounds on an organ."""

from windchest.errors import NoPlay, OrganError
from windchest.pipes import sounding_pipes
from windchest.player import Player
from windchest.rolls import is_length, open_at, roll_of_runs
from windchest.sets import set_of
from windchest.words import is_whole

MOST_THINGS = 200


def is_timed(thing, least, length):
    return isinstance(thing, tuple) and len(thing) == 2 and is_whole(thing[0]) and least <= thing[0] < length


def open_tracks(organ, player):
    return player.held() | player.knobs() << organ.key_count()


# Tells for each tick of the play, in their order, which tracks are open from there on. Apart from cut_play,
# for those who ask whether there is any NoPlay, and not yet how many holes come of it.
def runs_of(organ, play, length):
    if not isinstance(play, list) or len(play) > MOST_THINGS or not is_length(length):
        raise NoPlay(None)
    player = Player(organ)
    runs = {}
    tick = 0
    for place, thing in enumerate(play):
        if not is_timed(thing, tick, length):
            raise NoPlay(place)
        try:
            player.act(thing[1])
        except OrganError:
            raise NoPlay(place)
        tick = thing[0]
        # What later deeds of the same tick leave comes in the place of this.
        runs[tick] = open_tracks(organ, player)
    return list(runs.items())


def cut_play(organ, play, length):
    return roll_of_runs(length, runs_of(organ, play, length))


# Of the tracks from a first one on, so many, the numbers that they have from there.
def numbers_from(tracks, first, count):
    return set_of([track - first for track in tracks if 0 <= track - first < count])


def sound_at(organ, roll, tick):
    tracks = open_at(roll, tick)
    keys = organ.key_count()
    return sounding_pipes(organ, numbers_from(tracks, keys, len(organ.knobs())), numbers_from(tracks, 0, keys))
