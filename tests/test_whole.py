"""Points 0.2 and 0.3 and the interface, over the whole program.

Of 0.2, (c) is asked in test_pulling and test_purses, (d) in test_measures, (e) in test_watching, (f) in test_changing
and test_likeness; (a) and (b) of each game are asked in its own file, too.
"""

import ast
import importlib
import inspect
import random
import unittest

from duelground.again import again
from duelground.changing import beside, part_of, pressed
from duelground.checking import holds
from duelground.errors import NoRoom
from duelground.likeness import folded, likeness
from duelground.marks import won
from duelground.measures import by_measures
from duelground.playing import judged, ring_of
from duelground.pulling import kept, pulled
from duelground.purses import least_credits
from duelground.things import are_moves, are_some, is_ground, is_place
from duelground.watching import is_watcher, states_of, watched, watcher_of
from duelground.writing import written
from tests.plays import drawn, drawn_grounds, drawn_moves, drawn_some, drawn_whole_part, part_of_winner
from tests.samples import GROUNDS, SIX, circle, only_plain, refused_with, strangers, told_twice

INTERFACE = {
    "things": {
        "is_place": ["thing", "count"], "is_ground": ["thing"], "are_some": ["thing", "count"],
        "are_moves": ["thing", "ground"],
    },
    "writing": {"written": ["ground"]},
    "reading": {"read": ["text"]},
    "pulling": {"pulled": ["ground", "inside", "who", "goals"], "kept": ["ground", "inside", "who", "places"]},
    "again": {"again": ["ground", "who", "goals"]},
    "marks": {"won": ["ground"]},
    "measures": {"by_measures": ["ground"]},
    "checking": {"holds": ["ground", "who", "places", "moves"]},
    "playing": {"ring_of": ["ground", "zero", "one", "start"], "judged": ["ground", "ring"]},
    "purses": {"least_credits": ["ground"]},
    "changing": {
        "exchanged": ["ground"], "pressed": ["ground"], "beside": ["one", "other"], "part_of": ["ground", "inside"],
    },
    "likeness": {"likeness": ["ground"], "folded": ["ground"]},
    "watching": {
        "is_watcher": ["thing"], "watcher_of": ["groups"], "states_of": ["watcher", "marks"],
        "watched": ["ground", "watcher", "who"],
    },
}
TRUTHS = ("is_place", "is_ground", "are_some", "are_moves", "holds", "is_watcher")
TEXTS = ("written",)

WATCHER = watcher_of(((1, 3, 5), (0, 2)))


def of_interface():
    """Each function by its name."""
    functions = {}
    for file, names in INTERFACE.items():
        module = importlib.import_module("duelground." + file)
        functions.update({name: getattr(module, name) for name in names})
    return functions


def handed_in(chance, ground):
    """For each function of the interface what it may be asked about this ground, by its name."""
    everywhere = tuple(range(len(ground)))
    inside = drawn_whole_part(chance, ground) or everywhere
    some = drawn_some(chance, inside)
    moves = drawn_moves(chance, ground)
    who = chance.randint(0, 1)
    lower = tuple((owner, min(mark, 11), gain, goals) for owner, mark, gain, goals in ground)
    return {
        "is_place": (ground[0], len(ground)), "is_ground": (ground,), "are_some": (some, len(ground)),
        "are_moves": (moves, ground), "written": (ground,), "read": (written(ground),),
        "pulled": (ground, inside, who, some), "kept": (ground, inside, who, some), "again": (ground, who, some),
        "won": (ground,), "by_measures": (ground,), "holds": (ground, who, inside, moves),
        "ring_of": (ground, moves, moves, chance.choice(everywhere)),
        "judged": (ground, ring_of(ground, moves, moves, 0)[1]), "least_credits": (ground,), "exchanged": (lower,),
        "pressed": (ground,), "beside": (circle(1), ground), "part_of": (ground, inside),
        "likeness": (ground,), "folded": (ground,), "is_watcher": (WATCHER,), "watcher_of": (((), (0, 12)),),
        "states_of": (WATCHER, tuple(place[1] for place in ground)), "watched": (ground, WATCHER, who),
    }


def all_handed_in(seed, most_count):
    chance = random.Random(seed)
    return [handed_in(chance, ground) for ground in drawn_grounds(seed, 40, most_count, 4)]


class Interface(unittest.TestCase):
    def test_names_and_arguments(self):
        for file, names in INTERFACE.items():
            module = importlib.import_module("duelground." + file)
            for name, arguments in names.items():
                with self.subTest(name):
                    given = inspect.signature(getattr(module, name)).parameters
                    self.assertEqual(list(given), arguments)
                    for argument in given.values():
                        self.assertEqual(argument.default, inspect.Parameter.empty)

    def test_kinds(self):
        functions = of_interface()
        for rows in all_handed_in(231, 23):
            self.assertEqual(set(rows), set(functions))
            for name, handed in rows.items():
                answer = functions[name](*handed)
                if name in TRUTHS:
                    self.assertIs(type(answer), bool)
                elif name in TEXTS:
                    self.assertIs(type(answer), str)
                else:
                    only_plain(self, answer)

    def test_by_the_names_of_the_arguments(self):
        arguments = {name: given for names in INTERFACE.values() for name, given in names.items()}
        functions = of_interface()
        for name, handed in handed_in(random.Random(232), SIX).items():
            by_name = dict(zip(arguments[name], handed, strict=True))
            self.assertEqual(functions[name](**by_name), functions[name](*handed))


class AskedTwice(unittest.TestCase):
    def test_twice_the_same_and_nothing_changed(self):
        rows = all_handed_in(233, 23)
        for name, tell in of_interface().items():
            with self.subTest(name):
                told_twice(self, tell, [row[name] for row in rows])

    def test_of_things_of_any_kind(self):
        handed = [(thing,) for thing in strangers() + list(GROUNDS) + [WATCHER]]
        for tell in (is_ground, is_watcher):
            told_twice(self, tell, handed)
        for tell in (is_place, are_some):
            told_twice(self, tell, [row + (2,) for row in handed])
        told_twice(self, are_moves, [row + (SIX,) for row in handed])

    def test_equal_things_are_told_the_same(self):
        functions = of_interface()
        for rows in all_handed_in(234, 23):
            for name, handed in rows.items():
                again_made = ast.literal_eval(repr(handed))
                self.assertEqual(functions[name](*again_made), functions[name](*handed))


class EachPlaceHasOneWinner(unittest.TestCase):
    def grounds(self):
        return drawn_grounds(235, 100, 24, 3) + drawn_grounds(236, 60, 6, 3) + list(GROUNDS)

    def test_forcing_and_staying(self):
        chance = random.Random(237)
        for ground in self.grounds():
            inside = drawn_whole_part(chance, ground)
            goals = drawn_some(chance, inside)[:3]
            rest = tuple(number for number in inside if number not in goals)
            for who in (0, 1):
                forced = pulled(ground, inside, who, goals)[0]
                stayed = kept(ground, inside, 1 - who, rest)[0]
                self.assertEqual(sorted(forced + stayed), list(inside))

    def test_marks(self):
        for ground in self.grounds():
            winners, moves = won(ground)
            self.assertEqual(set(winners) - {0, 1}, set())
            for who in (0, 1):
                part = part_of_winner(winners, who)
                self.assertTrue(holds(ground, who, part, moves))
                self.assertFalse(part != () and holds(ground, 1 - who, part, moves))

    def test_coming_again_is_a_game_of_marks_and_of_a_watcher(self):
        chance = random.Random(238)
        for ground in self.grounds():
            goals = drawn_some(chance, range(len(ground)))
            for who in (0, 1):
                winners = again(ground, who, goals)[0]
                marked = tuple((owner, 1 + who + (number in goals), gain, ways)
                               for number, (owner, _, gain, ways) in enumerate(ground))
                self.assertEqual(won(marked)[0], winners)
                self.assertEqual(by_measures(marked), winners)
                self.assertEqual(watched(marked, watcher_of(((2 + who,),)), who)[0], winners)


class PlaysByTheToldMoves(unittest.TestCase):
    """The other one chooses as it is drawn, at each coming anew."""

    def play(self, chance, ground, who, moves, start, steps):
        numbers = [start]
        for _ in range(steps):
            owner, _, _, goals = ground[numbers[-1]]
            numbers.append(moves[numbers[-1]] if owner == who else chance.choice(goals))
        return numbers

    def rings(self, numbers):
        """What lies between each coming to a place and the next one: the other one could go round it for ever."""
        for where, number in enumerate(numbers):
            if number in numbers[:where]:
                last = max(k for k in range(where) if numbers[k] == number)
                yield numbers[last:where]

    def test_marks(self):
        chance = random.Random(239)
        for ground in drawn_grounds(240, 60, 24, 3):
            winners, moves = won(ground)
            for start, winner in enumerate(winners):
                numbers = self.play(chance, ground, winner, moves, start, 60)
                self.assertEqual({winners[number] for number in numbers}, {winner})
                for ring in self.rings(numbers):
                    self.assertEqual(judged(ground, tuple(ring)), winner)

    def test_coming_again(self):
        chance = random.Random(241)
        for ground in drawn_grounds(242, 60, 24, 3):
            goals = drawn_some(chance, range(len(ground)))
            for who in (0, 1):
                winners, moves = again(ground, who, goals)
                for start, winner in enumerate(winners):
                    for ring in self.rings(self.play(chance, ground, winner, moves, start, 60)):
                        self.assertEqual(bool(set(ring) & set(goals)), winner == who)

    def test_forcing(self):
        chance = random.Random(243)
        for ground in drawn_grounds(244, 60, 24, 3):
            everywhere = tuple(range(len(ground)))
            goals = drawn_some(chance, everywhere)[:3]
            for who in (0, 1):
                places, ranks, moves = pulled(ground, everywhere, who, goals)
                for start in places:
                    number = start
                    for rank in range(ranks[start], 0, -1):
                        if number in goals:
                            break
                        self.assertLessEqual(ranks[number], rank)
                        number = self.play(chance, ground, who, moves, number, 1)[1]
                    self.assertIn(number, goals)

    def test_staying(self):
        chance = random.Random(245)
        for ground in drawn_grounds(246, 60, 24, 3):
            everywhere = tuple(range(len(ground)))
            some = drawn_some(chance, everywhere)
            for who in (0, 1):
                places, moves = kept(ground, everywhere, who, some)
                for start in places:
                    self.assertLessEqual(set(self.play(chance, ground, who, moves, start, 60)), set(some))

    def test_credit(self):
        chance = random.Random(247)
        for ground in drawn_grounds(248, 60, 24, 3):
            least, moves = least_credits(ground)
            for start, credit in enumerate(least):
                if credit is not None:
                    for number in self.play(chance, ground, 0, moves, start, 60):
                        credit += ground[number][2]
                        self.assertGreaterEqual(credit, 0)


class SomewhatBeyond(unittest.TestCase):
    """Nothing is refused for lying somewhat beyond a bound where no point says so."""

    def grounds(self):
        chance = random.Random(249)
        for _ in range(20):
            ground = drawn(chance, chance.randint(25, 30), 3, 16)
            yield tuple((who, mark, gain * 2, goals) for who, mark, gain, goals in ground)

    def test_grounds(self):
        for ground in self.grounds():
            winners, moves = won(ground)
            self.assertFalse(is_ground(ground))
            self.assertEqual(by_measures(ground), winners)
            for who in (0, 1):
                self.assertTrue(holds(ground, who, part_of_winner(winners, who), moves))
            self.assertEqual(won(pressed(ground))[0], winners)
            like = likeness(ground)
            standing = sorted(set(like))
            self.assertEqual(won(folded(ground))[0], tuple(winners[number] for number in standing))
            self.assertEqual(part_of(ground, tuple(range(len(ground)))), ground)
            least = least_credits(ground)[0]
            for (who, _, gain, goals), credit in zip(ground, least, strict=True):
                asked = [10 ** 6 if least[goal] is None else least[goal] for goal in goals]
                needed = max(0, (max(asked) if who else min(asked)) - gain)
                self.assertEqual(needed > 10 ** 5, credit is None)
                self.assertTrue(credit is None or credit == needed)

    def test_a_refusal_that_a_point_tells(self):
        for ground in self.grounds():
            refused_with(self, NoRoom, beside, ground, circle(1))

    def test_states_of_a_watcher_of_seven(self):
        watcher = tuple((0, ((k + 1) % 7,) * 13) for k in range(7))
        self.assertFalse(is_watcher(watcher))
        self.assertEqual(states_of(watcher, (0, 5, 12, 1, 1, 1, 1, 1)), (1, 2, 3, 4, 5, 6, 0, 1))


if __name__ == "__main__":
    unittest.main()
