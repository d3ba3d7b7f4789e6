"""The desk: organs, plays and rolls by their names, and the rows of words that it answers."""

from windchest.barrels import barrel_of, first_unlike, fitted_to
from windchest.bellows import draught_of, first_lack, least_cap
from windchest.errors import NoRow, Unknown
from windchest.plays import cut_play, runs_of, sound_at
from windchest.rolls import end_to_end, laid_over, open_at, roll_part, slowed_by
from windchest.sets import members_of
from windchest.texts import read_organ, read_row
from windchest.words import is_name, is_number, number_of

# What stands behind a row's word. "name" is what something is kept by from then on; "organ", "play" and "roll"
# are names by which such a thing stands; "deed" and "text" are all that follows.
FORMS = {
    "organ": ("name", "text"),
    "play": ("name", "organ"),
    "at": ("play", "number", "deed"),
    "cut": ("name", "play", "number"),
    "join": ("name", "roll", "roll"),
    "over": ("name", "roll", "roll"),
    "part": ("name", "roll", "number", "number"),
    "slow": ("name", "roll", "number"),
    "fit": ("name", "roll", "organ"),
    "sound": ("roll", "number"),
    "open": ("roll", "number"),
    "least": ("roll", "number"),
    "lack": ("roll", "number", "number"),
    "same": ("roll", "roll"),
}
TELLING = ("sound", "open", "least", "lack", "same")


def is_of_form(part, form):
    if form == "text":
        return True
    if form == "deed":
        return all([len(word) > 0 for word in part.split(" ")])
    if form == "number":
        return is_number(part) and number_of(part) >= 0
    return is_name(part)


# The row's word, and its parts: as many as its form has.
def parts_of(row):
    if not isinstance(row, str):
        raise NoRow("this is no text")
    word = row.partition(" ")[0]
    forms = FORMS.get(word, ())
    # Of a word too many the last part has a blank within it, so it is no name and no number.
    parts = row.split(" ", len(forms))
    if not forms or len(parts) != 1 + len(forms):
        raise NoRow("this is no row's word with as many words behind it")
    if not all([is_of_form(part, form) for part, form in zip(parts[1:], forms)]):
        raise NoRow("a word of this row is no name or no number from 0 on")
    return parts


def kept_by(kept, name):
    if name not in kept:
        raise Unknown("nothing of this kind stands by this name")
    return kept[name]


def shown(things):
    return " ".join([str(thing) for thing in things]) if things else "-"


def shown_pipe(organ, pipe):
    place = organ.rank_of(pipe)
    name = organ.ranks()[place[0]][0]
    number = place[1]
    return f"{name}.{number}"


def shown_sound(organ, roll, tick):
    return shown([shown_pipe(organ, pipe) for pipe in members_of(sound_at(organ, roll, tick))])


def draught_of_roll(organ, roll):
    return draught_of(organ, barrel_of(organ, roll))


def shown_lack(organ, roll, pump, cap):
    tick = first_lack(draught_of_roll(organ, roll), pump, cap)
    return "-" if tick is None else str(tick)


def shown_same(one, other):
    tick = first_unlike(barrel_of(one[0], one[1]), barrel_of(other[0], other[1]))
    return "same" if tick is None else str(tick)


# Plays and rolls are kept with their organ: (organ, play) and (organ, roll).
def told_of(word, things):
    organ = things[0][0]
    roll = things[0][1]
    if word == "sound":
        return shown_sound(organ, roll, things[1])
    if word == "open":
        return shown(open_at(roll, things[1]))
    if word == "least":
        return shown(least_cap(draught_of_roll(organ, roll), things[1]))
    if word == "lack":
        return shown_lack(organ, roll, things[1], things[2])
    return shown_same(things[0], things[1])


def play_with(kept, tick, deed):
    play = kept[1] + [(tick, deed)]
    # It is made to be refused, where there is a NoPlay: how many holes come of it is asked when it is cut.
    runs_of(kept[0], play, tick + 1)
    return (kept[0], play)


def roll_made(word, kept, rest):
    if word == "cut":
        return cut_play(kept[0], kept[1], rest[0])
    if word == "join":
        return end_to_end(kept[1], rest[0][1])
    if word == "over":
        return laid_over(kept[1], rest[0][1])
    if word == "part":
        return roll_part(kept[1], rest[0], rest[1])
    return slowed_by(kept[1], rest[0])


class Desk:
    def __init__(self):
        self.organs = {}
        self.plays = {}
        self.rolls = {}

    def thing_of(self, part, form):
        if form == "organ":
            return kept_by(self.organs, part)
        if form == "play":
            return kept_by(self.plays, part)
        if form == "roll":
            return kept_by(self.rolls, part)
        if form == "number":
            return number_of(part)
        return read_row(part) if form == "deed" else part

    def keep_fitted(self, name, kept, organ):
        fitted = fitted_to(kept[0], organ, kept[1])
        self.rolls[name] = (organ, fitted[0])
        return "lost " + shown(fitted[1]) if fitted[1] else "ok"

    def keep(self, word, name, things):
        if word == "organ":
            self.organs[name] = read_organ(things[1])
        elif word == "play":
            self.plays[name] = (things[1], [])
        elif word == "at":
            self.plays[name] = play_with(things[0], things[1], things[2])
        elif word == "fit":
            return self.keep_fitted(name, things[1], things[2])
        else:
            self.rolls[name] = (things[1][0], roll_made(word, things[1], things[2:]))
        return "ok"

    def say(self, row):
        parts = parts_of(row)
        word = parts[0]
        things = [self.thing_of(part, form) for part, form in zip(parts[1:], FORMS[word])]
        return told_of(word, things) if word in TELLING else self.keep(word, parts[1], things)
