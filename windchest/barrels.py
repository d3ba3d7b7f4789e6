"""Barrels: rolls whose tracks are pipes; and rolls of one organ fitted to another one."""

from windchest.plays import sound_at
from windchest.rolls import change_ticks, holes_of, open_at, roll_of_runs


def barrel_of(organ, roll):
    # From one change of the roll to the next the same keys and knobs are open, and so the same pipes sound.
    return roll_of_runs(roll[0], [(tick, sound_at(organ, roll, tick)) for tick in change_ticks(roll)])


def key_there(organ, other, key):
    place = organ.board_of(key)
    name = organ.boards()[place[0]][0]
    board = other.board_number(name)
    if board is None or place[1] >= other.boards()[board][1]:
        return None
    return other.key(name, place[1])


def knob_there(organ, other, knob):
    told = organ.knobs()[knob]
    found = other.knob_number(told[1])
    # A knob of another kind may bear the same name there.
    return found if found is not None and other.knobs()[found] == told else None


def track_there(organ, other, track):
    keys = organ.key_count()
    if track < keys:
        return key_there(organ, other, track)
    if track - keys >= len(organ.knobs()):
        return None
    knob = knob_there(organ, other, track - keys)
    return None if knob is None else other.key_count() + knob


def fitted_to(organ, other, roll):
    spans = []
    lost = []
    for hole in roll[1]:
        track = track_there(organ, other, hole[0])
        if track is None:
            lost.append(hole[0])
        else:
            spans.append((track, hole[1], hole[2]))
    return ((roll[0], holes_of(spans)), sorted(set(lost)))


def first_unlike(one, other):
    for tick in sorted(set(change_ticks(one) + change_ticks(other))):
        if open_at(one, tick) != open_at(other, tick):
            return tick
    return None
