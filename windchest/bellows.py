"""The bellows: the wind that a barrel takes, and whether a cap and a pump are enough for it."""

from windchest.rolls import change_ticks, open_at


def winds_of_pipes(organ):
    ranks = organ.ranks()
    return [ranks[organ.rank_of(pipe)[0]][2] for pipe in range(organ.pipe_count())]


def draught_of(organ, barrel):
    winds = winds_of_pipes(organ)
    ticks = sorted(set([0, barrel[0]] + change_ticks(barrel)))
    draught = []
    for first, behind in zip(ticks, ticks[1:]):
        wind = sum([winds[pipe] for pipe in open_at(barrel, first)])
        # Other pipes may take just as much as those ahead.
        if draught and draught[-1][2] == wind:
            first = draught.pop()[0]
        draught.append((first, behind, wind))
    return draught


# How many ticks go by, of so many in which the wind rises or falls alike, until one lacks.
def good_ticks(there, rise, count):
    if there + rise < 0:
        return 0
    return count if rise >= 0 else min(count, there // -rise)


# Tells the first tick that lacks, or None, and what is there behind all ticks where there is none.
def course_of(draught, pump, cap):
    there = cap
    for first, behind, wind in draught:
        count = behind - first
        good = good_ticks(there, pump - wind, count)
        if good < count:
            return (first + good, None)
        # Within a stretch the wind only rises or only falls, so the cap need be asked but at its end.
        there = min(cap, there + count * (pump - wind))
    return (None, there)


def first_lack(draught, pump, cap):
    return course_of(draught, pump, cap)[0]


def wind_left(draught, pump, cap, tick):
    ahead = [(first, min(behind, tick + 1), wind) for first, behind, wind in draught if first <= tick]
    if not ahead or ahead[-1][1] <= tick:
        return None
    return course_of(ahead, pump, cap)[1]


def least_cap(draught, pump):
    best = (0, 0, 0)
    taken = 0
    since = 0
    for first, behind, wind in draught:
        # What takes no more than the pump gives is never worth going on from.
        if taken <= 0:
            taken = 0
            since = first
        taken = taken + (behind - first) * (wind - pump)
        if taken > best[0]:
            best = (taken, since, behind)
    return best
