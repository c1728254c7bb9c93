"""Points 0.5, 2.1 and 2.2: when a part is whole, coming to some places, and staying within some."""

import inspect
import random
import unittest

from duelground.errors import GroundError, NoPart
from duelground.parts import is_whole_part
from duelground.pulling import kept, pulled
from tests.plays import all_some, drawn_grounds, drawn_some, drawn_whole_part, edges_from, exchanged_by_hand, plans
from tests.samples import FOUR, GROUNDS, ONE, TWO, circle, full, nested, only_plain, strangers

SIX = (
    (0, 0, 0, (1, 2)),
    (1, 0, 0, (0, 3)),
    (1, 0, 0, (2,)),
    (0, 0, 0, (3,)),
    (0, 0, 0, (0, 1, 3)),
    (1, 0, 0, (2, 4)),
)
ALL = (0, 1, 2, 3, 4, 5)
NONE = (None,) * 6

# From 0 there are two ways of one rank, from 5 the nearer one has the greater number.
NEAR = (
    (0, 0, 0, (1, 2)),
    (1, 0, 0, (3,)),
    (1, 0, 0, (3,)),
    (0, 0, 0, (0,)),
    (1, 0, 0, (4,)),
    (0, 0, 0, (0, 2, 4)),
)


def forced_within(ground, inside, who, goals, most):
    """The places from which goals are forced within so many choices, by the words of the point."""
    places = set(goals)
    for _ in range(most):
        before = set(places)
        for number in inside:
            ways = [goal in before for goal in ground[number][3] if goal in inside]
            if any(ways) if ground[number][0] == who else all(ways):
                places.add(number)
    return places


def ranks_by_words(ground, inside, who, goals):
    ranks = [None] * len(ground)
    for most in range(len(ground), -1, -1):
        for number in forced_within(ground, inside, who, goals, most):
            ranks[number] = most
    return tuple(ranks)


def kept_by_plans(ground, inside, who, places):
    found = set()
    for plan in plans(ground, inside, who):
        for start in places:
            if set(edges_from(ground, inside, who, plan, start)) <= set(places):
                found.add(start)
    return tuple(sorted(found))


def whole_parts(ground):
    for part in all_some(range(len(ground))):
        if all(set(ground[number][3]) & set(part) for number in part):
            yield part


class WholeParts(unittest.TestCase):
    def test_by_hand(self):
        for part in ((), (2,), (3,), (0, 1), (0, 2), (1, 3), (2, 3), (3, 4), (2, 5), (0, 1, 4), (0, 1, 2, 4), ALL):
            self.assertIs(is_whole_part(SIX, part), True, part)
        for part in ((0,), (1,), (4,), (5,), (4, 5), (0, 3), (1, 2), (2, 4), (0, 4), (0, 5), (1, 5)):
            self.assertIs(is_whole_part(SIX, part), False, part)

    def test_seen_from_outside(self):
        for part in all_some(ALL):
            whole = part in list(whole_parts(SIX))
            for ask in (pulled, kept):
                for who in (0, 1):
                    if whole:
                        ask(SIX, part, who, ())
                        ask(SIX, part, who, part)
                    else:
                        with self.assertRaises(NoPart):
                            ask(SIX, part, who, ())
                        with self.assertRaises(NoPart):
                            ask(SIX, part, who, part)


class Pulled(unittest.TestCase):
    def told(self, ground, inside, who, goals, places, ranks, moves):
        answer = pulled(ground, inside, who, goals)
        self.assertEqual(answer, (places, ranks, moves))
        only_plain(self, answer)

    def test_names_and_arguments(self):
        self.assertEqual(list(inspect.signature(pulled).parameters), ["ground", "inside", "who", "goals"])

    def test_by_hand_with_all_places(self):
        self.told(SIX, ALL, 0, (3,), (3, 4), (None, None, None, 0, 1, None), (None, None, None, None, 3, None))
        self.told(SIX, ALL, 1, (3,), (1, 3), (None, 1, None, 0, None, None), (None, 3, None, None, None, None))
        self.told(SIX, ALL, 0, (2,), (0, 2, 4, 5), (1, None, 0, None, 2, 3), (2, None, None, None, 0, None))
        self.told(SIX, ALL, 1, (2,), (2, 5), (None, None, 0, None, None, 1), (None, None, None, None, None, 2))
        self.told(SIX, ALL, 0, (2, 3), ALL, (1, 2, 0, 0, 1, 2), (2, None, None, None, 3, None))
        self.told(SIX, ALL, 1, (2, 3), ALL, (2, 1, 0, 0, 3, 1), (None, 3, None, None, None, 2))

    def test_by_hand_with_a_whole_part(self):
        part = (0, 1, 2, 4)
        self.told(SIX, part, 0, (2,), part, (1, 2, 0, None, 2, None), (2, None, None, None, 0, None))
        self.told(SIX, part, 1, (2,), (2,), (None, None, 0, None, None, None), NONE)
        self.told(SIX, part, 1, (0,), (0, 1, 4), (0, 1, None, None, 2, None), (None, 0, None, None, None, None))
        self.told(SIX, (0, 1), 0, (0,), (0, 1), (0, 1, None, None, None, None), NONE)
        self.told(SIX, (0, 1), 0, (1,), (0, 1), (1, 0, None, None, None, None), (1,) + (None,) * 5)
        self.told(SIX, (3,), 0, (3,), (3,), (None, None, None, 0, None, None), NONE)

    def test_no_place_at_all(self):
        for ground in GROUNDS:
            nothing = (None,) * len(ground)
            for who in (0, 1):
                self.told(ground, (), who, (), (), nothing, nothing)

    def test_goals_empty_and_all(self):
        for ground in GROUNDS + (SIX, NEAR):
            everywhere = tuple(range(len(ground)))
            nothing = (None,) * len(ground)
            for who in (0, 1):
                self.told(ground, everywhere, who, (), (), nothing, nothing)
                self.told(ground, everywhere, who, everywhere, everywhere, (0,) * len(ground), nothing)
        self.told(SIX, (0, 2), 0, (0, 2), (0, 2), (0, None, 0, None, None, None), NONE)

    def test_the_least_goal_of_least_rank(self):
        everywhere = (0, 1, 2, 3, 4, 5)
        self.told(NEAR, everywhere, 0, (3,), (0, 1, 2, 3, 5), (2, 1, 1, 0, None, 2), (1, None, None, None, None, 2))
        self.told(NEAR, everywhere, 1, (3,), (0, 1, 2, 3), (2, 1, 1, 0, None, None), (None, 3, 3, None, None, None))
        self.told(NEAR, (0, 2, 3, 5), 0, (3,), (0, 2, 3, 5), (2, None, 1, 0, None, 2), (2, None, None, None, None, 2))
        self.told(NEAR, (0, 2, 3, 5), 1, (3,), (0, 2, 3, 5), (2, None, 1, 0, None, 3), (None, None, 3, None, None, None))
        self.told(NEAR, everywhere, 0, (2, 3), (0, 1, 2, 3, 5), (1, 1, 0, 0, None, 1), (2, None, None, None, None, 2))
        self.told(NEAR, everywhere, 0, (0, 4), (0, 1, 2, 3, 4, 5), (0, 2, 2, 1, 0, 1), (None, None, None, 0, None, 0))

    def test_a_goal_outside_is_not_gone_to(self):
        ground = ((0, 0, 0, (1, 2)), (0, 0, 0, (3,)), (0, 0, 0, (4,)), (0, 0, 0, (3,)), (0, 0, 0, (3,)))
        self.told(ground, (0, 1, 2, 3, 4), 0, (3,), (0, 1, 2, 3, 4), (2, 1, 2, 0, 1), (1, 3, 4, None, 3))
        self.told(ground, (0, 2, 3, 4), 0, (3,), (0, 2, 3, 4), (3, None, 2, 0, 1), (2, None, 4, None, 3))

    def test_one_place(self):
        for owner in (0, 1):
            ground = ((owner, 0, 0, (0,)),)
            for who in (0, 1):
                self.told(ground, (0,), who, (0,), (0,), (0,), (None,))
                self.told(ground, (0,), who, (), (), (None,), (None,))
                self.told(ground, (), who, (), (), (None,), (None,))

    def test_a_row_of_24_places(self):
        everywhere = tuple(range(24))
        line = tuple((k % 2, 0, 0, (min(k + 1, 23),)) for k in range(24))
        ranks = tuple(range(23, -1, -1))
        for who in (0, 1):
            moves = tuple(k + 1 if k % 2 == who and k < 23 else None for k in range(24))
            self.told(line, everywhere, who, (23,), everywhere, ranks, moves)
        # Each may also go back, and its owner does if it does not want to come on.
        back = tuple((0, 0, 0, tuple(range(min(k + 2, 24)))) for k in range(24))
        self.told(back, everywhere, 0, (23,), everywhere, ranks, tuple(range(1, 24)) + (None,))
        self.told(back, everywhere, 1, (23,), (23,), (None,) * 23 + (0,), (None,) * 24)

    def test_all_of_the_other_ones_choices_count(self):
        ground = ((1, 0, 0, (1, 2, 3)), (0, 0, 0, (4,)), (0, 0, 0, (1,)), (1, 0, 0, (2,)), (0, 0, 0, (0, 4)))
        self.told(ground, (0, 1, 2, 3, 4), 0, (4,), (0, 1, 2, 3, 4), (4, 1, 2, 3, 0), (None, 4, 1, None, None))
        self.told(ground, (0, 1, 2, 3, 4), 1, (4,), (0, 1, 2, 3, 4), (2, 1, 2, 3, 0), (1, None, None, 2, None))

    def test_all_parts_and_goals_of_small_grounds(self):
        for ground in (SIX, NEAR, FOUR, TWO, full(3), circle(5)) + tuple(drawn_grounds(4, 25, 5, 3)):
            for inside in whole_parts(ground):
                for goals in all_some(inside):
                    for who in (0, 1):
                        self.as_told(ground, inside, who, goals)

    def test_drawn_grounds(self):
        chance = random.Random(5)
        for ground in drawn_grounds(6, 150, 24, 4):
            inside = drawn_whole_part(chance, ground)
            goals = drawn_some(chance, inside)
            for who in (0, 1):
                self.as_told(ground, inside, who, goals)
                self.as_told(ground, inside, who, goals[:1])
                self.as_told(ground, tuple(range(len(ground))), who, goals[:1])

    def as_told(self, ground, inside, who, goals):
        places, ranks, moves = pulled(ground, inside, who, goals)
        self.assertEqual(ranks, ranks_by_words(ground, inside, who, goals))
        self.assertEqual(places, tuple(k for k in range(len(ground)) if ranks[k] is not None))
        expected = []
        for number, place in enumerate(ground):
            ways = [(ranks[goal], goal) for goal in place[3] if goal in inside and ranks[goal] is not None]
            chooses = place[0] == who and ranks[number] is not None and ranks[number] > 0
            expected.append(min(ways)[1] if chooses else None)
        self.assertEqual(moves, tuple(expected))
        only_plain(self, (places, ranks, moves))

    def test_the_play_comes_within_the_rank(self):
        chance = random.Random(7)
        for ground in drawn_grounds(8, 150, 24, 4):
            inside = drawn_whole_part(chance, ground)
            goals = drawn_some(chance, inside)[:3]
            who = chance.randint(0, 1)
            places, ranks, moves = pulled(ground, inside, who, goals)
            for start in places:
                number = start
                for _ in range(ranks[start]):
                    if number in goals:
                        break
                    ways = [goal for goal in ground[number][3] if goal in inside]
                    number = moves[number] if ground[number][0] == who else chance.choice(ways)
                    self.assertIn(number, inside)
                self.assertIn(number, goals)


class Kept(unittest.TestCase):
    def told(self, ground, inside, who, places, part, moves):
        answer = kept(ground, inside, who, places)
        self.assertEqual(answer, (part, moves))
        only_plain(self, answer)

    def test_names_and_arguments(self):
        self.assertEqual(list(inspect.signature(kept).parameters), ["ground", "inside", "who", "places"])

    def test_by_hand_with_all_places(self):
        self.told(SIX, ALL, 0, (0, 1, 2), (0, 2), (2, None, None, None, None, None))
        self.told(SIX, ALL, 1, (0, 1, 2), (0, 1, 2), (None, 0, 2, None, None, None))
        self.told(SIX, ALL, 0, (4, 5), (), NONE)
        self.told(SIX, ALL, 1, (4, 5), (), NONE)
        self.told(SIX, ALL, 0, (0, 1), (), NONE)
        self.told(SIX, ALL, 0, (0, 1, 3), (0, 1, 3), (1, None, None, 3, None, None))
        self.told(SIX, ALL, 1, (1, 3, 4, 5), (1, 3), (None, 3, None, None, None, None))
        self.told(SIX, ALL, 0, (0, 1, 3, 4), (0, 1, 3, 4), (1, None, None, 3, 0, None))

    def test_by_hand_with_a_whole_part(self):
        part = (0, 1, 2, 4)
        self.told(SIX, part, 0, (0, 1), (0, 1), (1, None, None, None, None, None))
        self.told(SIX, part, 1, (0, 1), (), NONE)
        self.told(SIX, part, 0, (0, 1, 4), (0, 1, 4), (1, None, None, None, 0, None))
        self.told(SIX, part, 1, (1, 2, 4), (2,), (None, None, 2, None, None, None))
        self.told(SIX, (3, 4), 0, (3, 4), (3, 4), (None, None, None, 3, 3, None))
        self.told(SIX, (3, 4), 1, (4,), (), NONE)

    def test_no_place_at_all(self):
        for ground in GROUNDS:
            for who in (0, 1):
                self.told(ground, (), who, (), (), (None,) * len(ground))

    def test_places_empty_and_all(self):
        for ground in GROUNDS + (SIX, NEAR):
            everywhere = tuple(range(len(ground)))
            for who in (0, 1):
                self.told(ground, everywhere, who, (), (), (None,) * len(ground))
                moves = tuple(place[3][0] if place[0] == who else None for place in ground)
                self.told(ground, everywhere, who, everywhere, everywhere, moves)

    def test_the_least_goal_that_is_kept(self):
        ground = ((0, 0, 0, (1, 2, 3)), (1, 0, 0, (4,)), (1, 0, 0, (0, 3)), (0, 0, 0, (2,)), (1, 0, 0, (4,)))
        self.told(ground, (0, 1, 2, 3, 4), 0, (0, 1, 2, 3), (0, 2, 3), (2, None, None, 2, None))
        self.told(ground, (0, 1, 2, 3, 4), 1, (0, 2, 3), (2, 3), (None, None, 3, None, None))
        self.told(ground, (0, 2, 3), 0, (0, 3), (), (None,) * 5)
        self.told(ground, (0, 2, 3), 1, (2, 3), (2, 3), (None, None, 3, None, None))

    def test_one_place(self):
        for owner in (0, 1):
            for who in (0, 1):
                ground = ((owner, 0, 0, (0,)),)
                self.told(ground, (0,), who, (0,), (0,), (0,) if owner == who else (None,))
                self.told(ground, (0,), who, (), (), (None,))
                self.told(ground, (), who, (), (), (None,))

    def test_a_row_of_24_places(self):
        everywhere = tuple(range(24))
        # Whoever is one behind the last is driven out, and then all ahead of it, one at a time.
        line = tuple((k % 2, 0, 0, ((k + 1) % 24,)) for k in range(24))
        for who in (0, 1):
            self.told(line, everywhere, who, everywhere[:-1], (), (None,) * 24)
        back = tuple((0, 0, 0, tuple(range(min(k + 2, 24)))) for k in range(24))
        self.told(back, everywhere, 0, everywhere[:-1], everywhere[:-1], (0,) * 23 + (None,))
        self.told(back, everywhere, 1, everywhere[:-1], (), (None,) * 24)

    def test_all_parts_and_places_of_small_grounds(self):
        for ground in (SIX, NEAR, FOUR, TWO, full(3)) + tuple(drawn_grounds(9, 20, 5, 3)):
            for inside in whole_parts(ground):
                for places in all_some(inside):
                    for who in (0, 1):
                        part, moves = kept(ground, inside, who, places)
                        self.assertEqual(part, kept_by_plans(ground, inside, who, places))
                        self.moves_as_told(ground, who, part, moves)

    def test_drawn_grounds(self):
        chance = random.Random(10)
        for ground in drawn_grounds(11, 200, 24, 4):
            inside = drawn_whole_part(chance, ground)
            places = tuple(number for number in inside if chance.randrange(6))
            for who in (0, 1):
                part, moves = kept(ground, inside, who, places)
                self.moves_as_told(ground, who, part, moves)
                self.assertLessEqual(set(part), set(places))
                for number in part:
                    goals = [moves[number]] if ground[number][0] == who else ground[number][3]
                    self.assertLessEqual(set(goals) & set(inside), set(part))
                # Elsewhere the other one forces the play out, so who can't stay there.
                out = tuple(number for number in inside if number not in places)
                driven = forced_within(ground, inside, 1 - who, out, len(ground))
                self.assertEqual(set(part) | driven, set(inside))

    def moves_as_told(self, ground, who, part, moves):
        expected = []
        for number, place in enumerate(ground):
            goals = [goal for goal in place[3] if goal in part]
            expected.append(min(goals) if number in part and place[0] == who else None)
        self.assertEqual(moves, tuple(expected))
        only_plain(self, (part, moves))


class Refused(unittest.TestCase):
    def refused(self, ground, inside, who, some):
        words = []
        for ask in (pulled, kept):
            before = repr((ground, inside, some))
            with self.assertRaises(NoPart, msg=before) as caught:
                ask(ground, inside, who, some)
            self.assertIs(type(caught.exception), NoPart)
            self.assertEqual(repr((ground, inside, some)), before)
            words.append(str(caught.exception))
        self.assertEqual(words[0], words[1])
        return words[0]

    def test_taken_by_each_name(self):
        for ask in (pulled, kept):
            for kind in (NoPart, GroundError, ValueError):
                with self.assertRaises(kind):
                    ask(SIX, (0,), 0, ())

    def test_inside_is_not_some_places(self):
        for who in (0, 1):
            for inside in ((6,), (-1, 2), (3, 2), (2, 2), (0, 1, 2, 3, 4, 5, 6), (0, 6), [2], [], "", (True,), (2, None)):
                self.refused(SIX, inside, who, ())

    def test_goals_are_not_some_places(self):
        for who in (0, 1):
            for goals in ((6,), (-1,), (-1, 2), (3, 2), (2, 2), ALL + (6,), [2], [], "", (True,), (False,), (2, None)):
                self.refused(SIX, ALL, who, goals)

    def test_strangers(self):
        for thing in strangers() + [nested(30, tuple), 0, 2, (2.0,)]:
            if thing != () or not isinstance(thing, tuple):
                self.refused(SIX, thing, 0, ())
                self.refused(SIX, ALL, 0, thing)
                self.refused(SIX, thing, 1, thing)

    def test_goals_do_not_lie_in_inside(self):
        for who in (0, 1):
            self.refused(SIX, (2,), who, (3,))
            self.refused(SIX, (), who, (0,))
            self.refused(SIX, (2, 3), who, (2, 3, 4))
            self.refused(ONE, (), who, (0,))
            self.refused(SIX, (0, 1, 2, 4), who, ALL)

    def test_inside_is_not_whole(self):
        for who in (0, 1):
            for inside in ((0,), (1,), (4,), (5,), (4, 5), (2, 4), (0, 3)):
                self.refused(SIX, inside, who, ())
                self.refused(SIX, inside, who, inside)
                self.refused(SIX, inside, who, inside[:1])
            self.refused(circle(24), tuple(range(23)), who, ())

    def test_bounds_of_numbers(self):
        for ground in GROUNDS:
            count = len(ground)
            self.refused(ground, (count,), 0, ())
            self.refused(ground, tuple(range(count + 1)), 0, ())
            self.refused(ground, tuple(range(count)), 0, (count,))
            self.refused(ground, tuple(range(count)), 0, (-1,))

    def test_in_the_told_order(self):
        # The words show which of the four was asked first; each fault stands alone, then with all later ones.
        words = [
            self.refused(SIX, (6,), 0, ()),
            self.refused(SIX, ALL, 0, (6,)),
            self.refused(SIX, (2,), 0, (3,)),
            self.refused(SIX, (0,), 0, ()),
        ]
        self.assertEqual(len(set(words)), 4)
        for inside, goals, first in (
            ((6,), (6,), 0), ((6,), (0,), 0), ((0, 6), (7,), 0), (None, None, 0), ([0], [1], 0), ("", (), 0), (3, (0,), 0),
            ((2, 2), (3,), 0), ((0,), (6,), 1), ((0,), (1, 0), 1), ((0,), None, 1), ((), [], 1), ((2,), (True,), 1),
            ((0,), (1,), 2), ((4, 5), (0, 4), 2), ((1,), (0, 1), 2), ((4, 5), (4,), 3), ((0,), (0,), 3),
        ):
            self.assertEqual(self.refused(SIX, inside, 0, goals), words[first], (inside, goals))


class AskedTwice(unittest.TestCase):
    def test_twice_the_same_and_nothing_changed(self):
        chance = random.Random(12)
        for ground in drawn_grounds(13, 40, 24, 4):
            inside = drawn_whole_part(chance, ground)
            some = drawn_some(chance, inside)
            before = repr((ground, inside, some))
            for ask in (pulled, kept):
                first = ask(ground, inside, 0, some)
                between = ask(ground, inside, 1, some)
                self.assertEqual(ask(ground, inside, 0, some), first)
                self.assertEqual(ask(ground, inside, 1, some), between)
                self.assertEqual(repr((ground, inside, some)), before)

    def test_the_players_are_alike(self):
        chance = random.Random(14)
        for ground in drawn_grounds(15, 60, 24, 4, 11):
            other = exchanged_by_hand(ground)
            inside = drawn_whole_part(chance, ground)
            some = drawn_some(chance, inside)
            for ask in (pulled, kept):
                self.assertEqual(ask(ground, inside, 0, some), ask(other, inside, 1, some))
                self.assertEqual(ask(ground, inside, 1, some), ask(other, inside, 0, some))


if __name__ == "__main__":
    unittest.main()
