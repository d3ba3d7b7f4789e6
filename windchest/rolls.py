"""Paper rolls: tracks with holes, how they are read, cut apart, joined and slowed."""

from windchest.errors import NoRoll
from windchest.sets import may_be_member, members_of
from windchest.words import is_whole

MOST_TICKS = 1000000000000
MOST_HOLES = 400
MOST_TIMES = 1000


def is_length(thing):
    return is_whole(thing) and 0 <= thing <= MOST_TICKS


def is_hole_within(thing, length):
    if not isinstance(thing, tuple) or len(thing) != 3 or not may_be_member(thing[0]):
        return False
    return is_whole(thing[1]) and is_whole(thing[2]) and 0 <= thing[1] < thing[2] <= length


def are_holes_within(thing, length):
    return isinstance(thing, list) and all([is_hole_within(each, length) for each in thing])


# The one list of holes that has open just what these spans have open.
def holes_of(spans):
    holes = []
    for span in sorted(spans):
        if holes and holes[-1][0] == span[0] and span[1] <= holes[-1][2]:
            ahead = holes.pop()
            holes.append((span[0], ahead[1], max(ahead[2], span[2])))
        else:
            holes.append(span)
    return sorted(holes, key=lambda hole: (hole[1], hole[0]))


def is_roll(thing):
    if not isinstance(thing, tuple) or len(thing) != 2 or not is_length(thing[0]):
        return False
    if not are_holes_within(thing[1], thing[0]) or len(thing[1]) > MOST_HOLES:
        return False
    # Holes in another order, or that overlap or touch, would come out otherwise.
    return thing[1] == holes_of(thing[1])


def few_holes_of(spans):
    holes = holes_of(spans)
    if len(holes) > MOST_HOLES:
        raise NoRoll("this comes to too many holes")
    return holes


def roll_from(length, spans):
    if length > MOST_TICKS:
        raise NoRoll("this comes to too many ticks")
    return (length, few_holes_of(spans))


# Each run is a tick and the set of tracks that are open from there on, until the next run or the roll's end;
# ticks rise from run to run. The length is one that the asker took for good, so it is not refused here.
def roll_of_runs(length, runs):
    spans = []
    since = {}
    ahead = 0
    for run in runs + [(length, 0)]:
        for track in members_of(ahead & ~run[1]):
            spans.append((track, since[track], run[0]))
        for track in members_of(run[1] & ~ahead):
            since[track] = run[0]
        ahead = run[1]
    return (length, few_holes_of(spans))


def roll_of(length, spans):
    if not is_length(length) or not are_holes_within(spans, length):
        raise NoRoll("this is no length of a roll with a list of holes within it")
    return roll_from(length, spans)


def open_at(roll, tick):
    return sorted([hole[0] for hole in roll[1] if hole[1] <= tick < hole[2]])


def moved(holes, ticks):
    return [(hole[0], hole[1] + ticks, hole[2] + ticks) for hole in holes]


def roll_part(roll, first, behind):
    if not is_whole(first) or not is_whole(behind) or not 0 <= first <= behind <= roll[0]:
        raise NoRoll("these are no two ticks of the roll, the first not above the second")
    cut = [(hole[0], max(hole[1], first), min(hole[2], behind)) for hole in roll[1]]
    return roll_from(behind - first, moved([hole for hole in cut if hole[1] < hole[2]], -first))


def end_to_end(one, other):
    return roll_from(one[0] + other[0], one[1] + moved(other[1], one[0]))


def laid_over(one, other):
    return roll_from(max(one[0], other[0]), one[1] + other[1])


def slowed_by(roll, times):
    if not is_whole(times) or not 1 <= times <= MOST_TIMES:
        raise NoRoll("this is no whole number from 1 to 1000")
    return roll_from(roll[0] * times, [(hole[0], hole[1] * times, hole[2] * times) for hole in roll[1]])


def tracks_by_tick(holes, part):
    tracks = {}
    for hole in holes:
        tracks.setdefault(hole[part], []).append(hole[0])
    return tracks


def changes_of(roll):
    opened = tracks_by_tick(roll[1], 1)
    closed = tracks_by_tick(roll[1], 2)
    ticks = sorted(set(list(opened) + list(closed)))
    # No two holes of a track touch, so what is opened at a tick was not open just before.
    return [(tick, sorted(opened.get(tick, [])), sorted(closed.get(tick, []))) for tick in ticks]


def change_ticks(roll):
    return [change[0] for change in changes_of(roll)]
