"""The registrant: which knobs make just the wished pipes sound, or what each set of couplers and mutes lacks."""

from windchest.errors import TooMany
from windchest.pipes import brought_by_stop, speaking_keys
from windchest.sets import members_of, set_of, union_of

MOST_LEADING = 6


# Couplers and mutes together: by these alone it hangs which keys speak.
def leading_knobs(organ):
    return [knob for knob, told in enumerate(organ.knobs()) if told[0] != "stop"]


def stops_of(organ):
    return [knob for knob, told in enumerate(organ.knobs()) if told[0] == "stop"]


# All sets of these rising knobs, the sets rising, too: each knob is greater than all sets of those ahead of it.
def sets_of(knobs):
    sets = [0]
    for knob in knobs:
        sets = sets + [some | set_of([knob]) for some in sets]
    return sets


# Tuples (stop, pipes): those stops that bring no unwished pipe. No other one may be drawn.
def good_stops(organ, leading, held, wish):
    keys = speaking_keys(organ, leading, held)
    brought = [(stop, brought_by_stop(organ, stop, keys)) for stop in stops_of(organ)]
    return [each for each in brought if each[1] & ~wish == 0]


def pipes_in_all(brought):
    return union_of([each[1] for each in brought])


# What is kept stays needed when others go: then still fewer bring its pipes.
def needed_stops(brought):
    wanted = pipes_in_all(brought)
    needed = brought
    for each in brought:
        others = [one for one in needed if one != each]
        if pipes_in_all(others) == wanted:
            needed = others
    return set_of([each[0] for each in needed])


def wished_knobs(organ, held, wish):
    leading = leading_knobs(organ)
    if len(leading) > MOST_LEADING:
        raise TooMany("there are more than six couplers and mutes")
    lacks = []
    for some in sets_of(leading):
        brought = good_stops(organ, some, held, wish)
        lacking = members_of(wish & ~pipes_in_all(brought))
        if not lacking:
            return ("knobs", some | needed_stops(brought))
        lacks.append((some, lacking[0]))
    return ("lacks", lacks)
