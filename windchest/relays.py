"""The board of relays: for each key the pipes that sound where it alone is held, worked out once."""

from windchest.net import drawn_of, led_to
from windchest.pipes import brought_in_all, unmuted_keys
from windchest.sets import has_member, set_of, union_of


def led_in_one_step(organ, couplers, key):
    led = [led_to(organ, knob, key) for knob in couplers]
    return set_of([each for each in led if each is not None])


# Behind the round for a key, each key knows where it leads by way of that one and of those of earlier rounds.
# So behind the last round each knows all, whatever chains and rings there are.
def led_in_all_steps(one_step):
    led = list(one_step)
    for way in range(len(one_step)):
        for key in range(len(one_step)):
            if has_member(led[key], way):
                led[key] = led[key] | led[way]
    return led


def coupled_by_each(organ, knobs):
    couplers = drawn_of(organ, knobs, "coupler")
    return led_in_all_steps([led_in_one_step(organ, couplers, key) for key in range(organ.key_count())])


def compiled_rows(organ, knobs):
    rows = {}
    for key, coupled in enumerate(coupled_by_each(organ, knobs)):
        speaking = coupled | unmuted_keys(organ, knobs, set_of([key]))
        rows[key] = brought_in_all(organ, knobs, speaking)
    return rows


class Relays:
    def __init__(self, organ, knobs):
        self.row_sets = compiled_rows(organ, knobs)

    def row_of(self, key):
        # By a number that is no key nothing sounds.
        return self.row_sets.get(key, 0)

    def gangs(self):
        keys_by_row = {}
        for key, row in self.row_sets.items():
            if row != 0:
                keys_by_row[row] = keys_by_row.get(row, 0) | set_of([key])
        # Keys rise here, so each row came with the least key of its gang.
        return [(keys, row) for row, keys in keys_by_row.items()]

    def sound(self, held):
        return union_of([row for key, row in self.row_sets.items() if has_member(held, key)])
