"""Points [1] to [3] over the whole program: all ways of telling what sounds tell the same, and nothing is changed."""

import random
import unittest

from sample_organs import PlayerModel, bits, chance_deed, chance_play, lively_organs, members, roll_of_columns
from windchest.barrels import barrel_of, first_unlike, fitted_to
from windchest.bellows import draught_of, first_lack, least_cap, wind_left
from windchest.desk import Desk
from windchest.errors import NoRoll, OrganError
from windchest.organ import Organ
from windchest.pipes import sounding_pipes, why_sounds
from windchest.player import Player
from windchest.plays import cut_play, sound_at
from windchest.registrant import wished_knobs
from windchest.relays import Relays
from windchest.rolls import end_to_end, is_roll, laid_over, open_at, roll_part, slowed_by
from windchest.texts import read_organ, show_organ


def written(deed):
    """A deed as the desk's rows have it; a None there is left out."""
    return " ".join(str(part) for part in deed if part is not None)


def barrel_or_none(organ, roll):
    try:
        return barrel_of(organ, roll)
    except NoRoll:
        return None


class TestAllTellTheSame(unittest.TestCase):
    def check_tick(self, organ, player, model, roll, barrel, tick):
        """The player, walking, the relays, the roll and its barrel, all against a plain model."""
        wanted = model.sound()
        pipes = bits(wanted)
        self.assertEqual(player.sound(), pipes)
        self.assertEqual(sounding_pipes(organ, player.knobs(), player.held()), pipes)
        self.assertEqual(Relays(organ, player.knobs()).sound(player.held()), pipes)
        self.assertEqual(sound_at(organ, roll, tick), pipes)
        if barrel is not None:
            self.assertEqual(open_at(barrel, tick), sorted(wanted))
        for pipe in range(organ.pipe_count()):
            why = why_sounds(organ, player.knobs(), player.held(), pipe)
            self.assertEqual(why is not None, pipe in wanted)
            if why is not None:
                self.check_why(player, model.model, pipe, why)
        return len(wanted)

    def check_why(self, player, model, pipe, why):
        trail, knob, line = why
        key = trail[1][-1][1] if trail[1] else trail[0]
        knobs = members(player.knobs())
        self.assertIn(knob, model.drawn(knobs, "stop"))
        self.assertEqual(model.brought_by_line(knob, line, key), pipe)
        least = 1 if model.is_muted(knobs, key) else 0
        self.assertIsNone(model.fault_of_trail(knobs, members(player.held()), key, least, trail))

    def check_play(self, rows, play, columns):
        organ, player, model = Organ(rows), Player(Organ(rows)), PlayerModel(rows)
        roll = cut_play(organ, play, len(columns))
        barrel = barrel_or_none(organ, roll)
        left, sounding, seen = list(play), set(), 0
        for tick in range(len(columns)):
            while left and left[0][0] == tick:
                deed = left.pop(0)[1]
                begun, ended = player.do(deed)
                model.do(deed)
                self.assertEqual((begun, ended), (sorted(model.sound() - sounding), sorted(sounding - model.sound())))
                sounding = model.sound()
            seen += self.check_tick(organ, player, model, roll, barrel, tick)
        self.assertEqual(left, [])
        self.assertEqual(roll, roll_of_columns(columns))
        return seen, barrel is not None

    def test_long_drawn_runs_of_deeds(self):
        seen = barrels = 0
        for rows, chance in lively_organs(130, 40):
            play, columns = chance_play(chance, rows, 80, 1)
            pipes, has_barrel = self.check_play(rows, play, columns)
            seen, barrels = seen + pipes, barrels + has_barrel
        self.assertGreater(seen, 2000)
        self.assertGreater(barrels, 30)

    def test_two_hundred_deeds(self):
        for rows, chance in lively_organs(131, 4):
            play, columns = chance_play(chance, rows, 240, 1)
            self.check_play(rows, play[:200], columns[:play[:200][-1][0] + 1])

    def test_refused_deeds_amid_them_change_nothing(self):
        for rows, chance in lively_organs(132, 20):
            organ, model = Organ(rows), PlayerModel(rows)
            player = Player(organ)
            for _ in range(60):
                deed = chance_deed(chance, model)
                if model.refusal_of(deed) is None:
                    model.do(deed)
                    player.do(deed)
                else:
                    with self.assertRaises(OrganError):
                        player.do(deed)
                self.assertEqual([player.sound(), player.held(), player.knobs()],
                                 [bits(model.sound()), bits(model.held()), bits(model.knobs())])


class TestRollsAndBellows(unittest.TestCase):
    def rolls(self, seed, count):
        for rows, chance in lively_organs(seed, count):
            play, columns = chance_play(chance, rows, 50, 2)
            yield Organ(rows), cut_play(Organ(rows), play, len(columns)), chance

    def test_rolls_of_rolls_sound_as_their_parts(self):
        for organ, roll, chance in self.rolls(133, 25):
            length = roll[0]
            cut = chance.randint(0, length)
            sounds = [sound_at(organ, roll, tick) for tick in range(length)]
            again = end_to_end(roll_part(roll, 0, cut), roll_part(roll, cut, length))
            self.assertEqual(again, roll)
            self.assertEqual(laid_over(roll, again), roll)
            slow = slowed_by(roll, 3)
            self.assertEqual([sound_at(organ, slow, tick) for tick in range(3 * length)],
                             [sound for sound in sounds for _ in range(3)])
            barrel = barrel_or_none(organ, roll)
            if barrel is not None:
                self.assertEqual(barrel_of(organ, slow), slowed_by(barrel, 3))
                self.assertEqual(barrel_of(organ, roll_part(roll, cut, length)), roll_part(barrel, cut, length))

    def test_fitted_to_the_same_organ_by_its_text(self):
        for organ, roll, _ in self.rolls(134, 15):
            again = read_organ(show_organ(organ))
            self.assertEqual(fitted_to(organ, again, roll), (roll, []))

    def test_with_the_least_cap_no_tick_lacks(self):
        caps = []
        for organ, roll, chance in self.rolls(135, 40):
            barrel = barrel_or_none(organ, roll)
            if barrel is None:
                continue
            draught = draught_of(organ, barrel)
            winds = [sum(organ.ranks()[organ.rank_of(pipe)[0]][2] for pipe in members(sound_at(organ, roll, tick)))
                     for tick in range(roll[0])]
            self.assertEqual([wind for first, behind, wind in draught for _ in range(first, behind)], winds)
            pump = chance.randint(0, max(winds) + 1)
            cap, first, behind = least_cap(draught, pump)
            self.assertEqual(sum(winds[first:behind]) - pump * (behind - first), cap)
            self.assertIsNone(first_lack(draught, pump, cap))
            self.assertIsNotNone(wind_left(draught, pump, cap, roll[0] - 1))
            if cap > 0:
                self.assertIsNotNone(first_lack(draught, pump, cap - 1))
                self.assertIsNone(wind_left(draught, pump, cap - 1, roll[0] - 1))
            caps.append(cap)
        self.assertGreater(len(set(caps)), 10)

    def test_the_registrant_finds_what_sounded(self):
        found = 0
        for organ, roll, _ in self.rolls(136, 60):
            if len([word for word, _ in organ.knobs() if word != "stop"]) > 6:
                continue
            for tick in range(0, roll[0], 5):
                wish = sound_at(organ, roll, tick)
                held = bits(track for track in open_at(roll, tick) if track < organ.key_count())
                told = wished_knobs(organ, held, wish)
                self.assertEqual(told[0], "knobs")
                self.assertEqual(sounding_pipes(organ, told[1], held), wish)
                found += wish != 0
        self.assertGreater(found, 30)

    def test_what_is_handed_in_stays(self):
        for organ, roll, _ in self.rolls(137, 15):
            rows, kept = organ.rows(), (roll[0], list(roll[1]))
            barrel = barrel_or_none(organ, roll) or (3, [])
            kept_barrel = (barrel[0], list(barrel[1]))
            draught = draught_of(organ, barrel)
            kept_draught = list(draught)
            least_cap(draught, 1), first_lack(draught, 1, 5), wind_left(draught, 1, 5, 0)
            fitted_to(organ, organ, roll), first_unlike(roll, barrel), sound_at(organ, roll, 1)
            self.assertEqual([organ.rows(), roll, barrel, draught], [rows, kept, kept_barrel, kept_draught])
            self.assertTrue(is_roll(roll) and is_roll(barrel))


class TestByDesk(unittest.TestCase):
    def pipes(self, organ, some):
        places = [organ.rank_of(pipe) for pipe in members(some)]
        return " ".join(f"{organ.ranks()[rank][0]}.{number}" for rank, number in places) or "-"

    def test_a_play_at_the_desk_sounds_as_it_was_played(self):
        for rows, chance in lively_organs(138, 25):
            organ, desk = Organ(rows), Desk()
            play, columns = chance_play(chance, rows, 50, 2)
            self.assertEqual([desk.say("organ o " + show_organ(organ)), desk.say("play p o")], ["ok", "ok"])
            for tick, deed in play:
                self.assertEqual(desk.say(f"at p {tick} {written(deed)}"), "ok")
            self.assertEqual(desk.say(f"cut r p {len(columns)}"), "ok")
            player, left = Player(organ), list(play)
            for tick in range(len(columns)):
                while left and left[0][0] == tick:
                    player.do(left.pop(0)[1])
                self.assertEqual(desk.say(f"sound r {tick}"), self.pipes(organ, player.sound()))
                self.assertEqual(desk.say(f"open r {tick}"), " ".join(map(str, sorted(columns[tick]))) or "-")

    def test_drawn_rows_as_the_stages_tell(self):
        answers = []
        for rows, chance in lively_organs(139, 12):
            other = [row for row in rows if row[0] in ("board", "rank", "stop", "line")]
            organs = {"one": Organ(rows), "two": Organ(other)}
            rolls, desk = {}, Desk()
            for name, organ in organs.items():
                desk.say(f"organ {name} {show_organ(organ)}")
                play, columns = chance_play(chance, organ.rows(), 30, 1)
                desk.say("play p " + name)
                for tick, deed in play:
                    desk.say(f"at p {tick} {written(deed)}")
                desk.say(f"cut {name} p {len(columns)}")
                rolls[name] = (organ, cut_play(organ, play, len(columns)))
            for _ in range(60):
                answers.append(self.check_row(desk, organs, rolls, chance))
        self.assertGreater(len(set(answers)), 60)
        self.assertTrue({"ok", "-", "same", "NoRoll", "0 0 0"} <= set(answers))

    def check_row(self, desk, organs, rolls, chance):
        one, other, name = chance.choice(list(rolls)), chance.choice(list(rolls)), chance.choice("abcd")
        organ = chance.choice(list(organs))
        number, more = chance.randrange(40), chance.randrange(40)
        row, call = chance.choice((
            (f"join {name} {one} {other}", lambda: (rolls[one][0], end_to_end(rolls[one][1], rolls[other][1]))),
            (f"over {name} {one} {other}", lambda: (rolls[one][0], laid_over(rolls[one][1], rolls[other][1]))),
            (f"part {name} {one} {number} {more}", lambda: (rolls[one][0], roll_part(rolls[one][1], number, more))),
            (f"slow {name} {one} {number}", lambda: (rolls[one][0], slowed_by(rolls[one][1], number))),
            (f"fit {name} {one} {organ}", lambda: self.fit(rolls[one], organs[organ])),
            (f"sound {one} {number}", lambda: self.pipes(rolls[one][0], sound_at(*rolls[one], number))),
            (f"open {one} {number}", lambda: " ".join(map(str, open_at(rolls[one][1], number))) or "-"),
            (f"least {one} {number}", lambda: " ".join(map(str, least_cap(self.draught(rolls[one]), number)))),
            (f"lack {one} {number} {more}", lambda: self.tick(first_lack(self.draught(rolls[one]), number, more), "-")),
            (f"same {one} {other}", lambda: self.tick(first_unlike(barrel_of(*rolls[one]), barrel_of(*rolls[other])),
                                                      "same")),
        ))
        try:
            wanted = call()
        except NoRoll:
            with self.assertRaises(NoRoll):
                desk.say(row)
            return "NoRoll"
        told = desk.say(row)
        if isinstance(wanted, str):
            self.assertEqual(told, wanted, row)
        else:
            self.assertEqual(told, wanted[2] if len(wanted) == 3 else "ok", row)
            rolls[name] = wanted[:2]
        return told

    def fit(self, kept, organ):
        roll, lost = fitted_to(kept[0], organ, kept[1])
        return (organ, roll, "lost " + " ".join(map(str, lost)) if lost else "ok")

    def draught(self, kept):
        return draught_of(kept[0], barrel_of(*kept))

    def tick(self, told, nothing):
        return nothing if told is None else str(told)


class TestNothingHangsOnChance(unittest.TestCase):
    def test_the_same_again(self):
        for rows, _ in lively_organs(140, 5):
            told = []
            for _ in range(2):
                play, columns = chance_play(random.Random(5), rows, 40, 2)
                organ = Organ(rows)
                roll = cut_play(organ, play, len(columns))
                told.append((roll, barrel_or_none(organ, roll), fitted_to(organ, organ, roll)))
            self.assertEqual(told[0], told[1])


if __name__ == "__main__":
    unittest.main()
