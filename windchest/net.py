"""The net of keys: where drawn couplers lead from the keys that are held."""

from windchest.sets import has_member, members_of, set_of, shifted


def led_to(organ, knob, key):
    if not 0 <= key < organ.key_count():
        return None
    coupler = organ.coupler(knob)
    place = organ.board_of(key)
    second = organ.boards()[coupler[1]]
    number = place[1] + coupler[2]
    if place[0] != coupler[0] or not 0 <= number < second[1]:
        return None
    return organ.key(second[0], number)


def drawn_of(organ, knobs, word):
    words = [told[0] for told in organ.knobs()]
    return [knob for knob, each in enumerate(words) if each == word and has_member(knobs, knob)]


# A member beyond the organ's keys is no key, so it is not held either.
def held_keys(organ, held):
    return shifted(held, 0, organ.key_count())


# Tells for each coupled key one step (knob, key ahead) that leads to it from a key that is down.
# From each key the walk goes on but once, so rings end; and the key ahead of one that is not held
# came into the walk before it, so steps followed back from there come to a held key, and meet no key twice.
def coupled_ways(organ, knobs, held):
    couplers = drawn_of(organ, knobs, "coupler")
    ways = {}
    left = members_of(held)
    while left:
        ahead = left.pop(0)
        for knob in couplers:
            key = led_to(organ, knob, ahead)
            if key is not None and key not in ways:
                ways[key] = (knob, ahead)
                if not has_member(held, key):
                    left.append(key)
    return ways


def coupled_keys(organ, knobs, held):
    return set_of(list(coupled_ways(organ, knobs, held_keys(organ, held))))


def down_keys(organ, knobs, held):
    return held_keys(organ, held) | coupled_keys(organ, knobs, held)


def trail_back(ways, held, key):
    steps = [(ways[key][0], key)]
    first = ways[key][1]
    while not has_member(held, first):
        steps.append((ways[first][0], first))
        first = ways[first][1]
    return (first, list(reversed(steps)))


def trail_to(organ, knobs, held, key, least=0):
    keys = held_keys(organ, held)
    if least == 0 and has_member(keys, key):
        return (key, [])
    ways = coupled_ways(organ, knobs, keys)
    return trail_back(ways, keys, key) if key in ways else None
