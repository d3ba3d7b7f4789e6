"""The pipes: which keys speak, what stops bring by them, and why a pipe sounds."""

from windchest.net import coupled_keys, drawn_of, held_keys, trail_to
from windchest.sets import has_member, members_of, set_of, shifted, union_of


def muted_boards(organ, knobs):
    return [organ.mute(knob) for knob in drawn_of(organ, knobs, "mute")]


def unmuted_keys(organ, knobs, keys):
    muted = muted_boards(organ, knobs)
    return set_of([key for key in members_of(keys) if organ.board_of(key)[0] not in muted])


def speaking_keys(organ, knobs, held):
    return coupled_keys(organ, knobs, held) | unmuted_keys(organ, knobs, held_keys(organ, held))


def numbers_on_board(organ, board, keys):
    told = organ.boards()[board]
    return shifted(keys, -organ.key(told[0], 0), told[1])


# The numbers are those of keys on the board of the line's stop. The first move leaves out those that are not
# from low to high, the second one those that lead to no pipe of the rank.
def led_by_line(organ, line, numbers):
    rank = organ.ranks()[line[0]]
    from_low = shifted(numbers, -line[2], line[3] - line[2] + 1)
    on_rank = shifted(from_low, line[2] + line[1], rank[1])
    return shifted(on_rank, organ.pipe(rank[0], 0), organ.pipe_count())


def brought_by_stop(organ, knob, keys):
    stop = organ.stop(knob)
    numbers = numbers_on_board(organ, stop[0], keys)
    return union_of([led_by_line(organ, line, numbers) for line in stop[1]])


def brought_by(organ, knob, key):
    if not 0 <= key < organ.key_count():
        return 0
    return brought_by_stop(organ, knob, set_of([key]))


def brought_in_all(organ, knobs, keys):
    return union_of([brought_by_stop(organ, knob, keys) for knob in drawn_of(organ, knobs, "stop")])


def sounding_pipes(organ, knobs, held):
    return brought_in_all(organ, knobs, speaking_keys(organ, knobs, held))


def lines_leading_to(organ, knobs, keys, pipe):
    found = []
    for knob in drawn_of(organ, knobs, "stop"):
        stop = organ.stop(knob)
        numbers = numbers_on_board(organ, stop[0], keys)
        for number, line in enumerate(stop[1]):
            if has_member(led_by_line(organ, line, numbers), pipe):
                found.append((knob, number))
    return found


# Of a line just one key leads to a pipe, so the pipe and the line tell the key.
def key_ahead(organ, knob, number, pipe):
    stop = organ.stop(knob)
    board = organ.boards()[stop[0]]
    return organ.key(board[0], organ.rank_of(pipe)[1] - stop[1][number][1])


def why_sounds(organ, knobs, held, pipe):
    found = lines_leading_to(organ, knobs, speaking_keys(organ, knobs, held), pipe)
    if not found:
        return None
    knob = found[0][0]
    number = found[0][1]
    key = key_ahead(organ, knob, number, pipe)
    # On a muted board being held alone does not make a key speak.
    least = 1 if organ.board_of_knob(knob) in muted_boards(organ, knobs) else 0
    return (trail_to(organ, knobs, held, key, least), knob, number)
