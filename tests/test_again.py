"""Points 0.2 and 3.1: coming to some places again and again."""

import inspect
import random
import time
import unittest

from duelground.again import again
from duelground.errors import GroundError, NoPart
from tests.plays import (
    all_some, drawn_grounds, drawn_some, edges_from, edges_of_both, exchanged_by_hand, plans, ring_beside_goals,
    ring_through_goals,
)
from tests.samples import FOUR, GROUNDS, ONE, TWO, circle, full, only_plain, strangers

# Each move that is told on it is the one that wins, so it may be asked for.
SIX = (
    (0, 0, 0, (1, 2)),
    (1, 0, 0, (0, 3)),
    (1, 0, 0, (2,)),
    (0, 0, 0, (3, 4)),
    (1, 0, 0, (3, 5)),
    (0, 0, 0, (4,)),
)


def won_by_plans(ground, who, goals):
    """The places from which one plan of who, going by the place alone, comes to goals again and again."""
    found = set()
    everywhere = range(len(ground))
    for plan in plans(ground, everywhere, who):
        for start in everywhere:
            if not ring_beside_goals(edges_from(ground, everywhere, who, plan, start), goals):
                found.add(start)
    return found


class Judging(unittest.TestCase):
    def judged(self, ground, who, goals):
        answer = again(ground, who, goals)
        only_plain(self, answer)
        for player, edges in enumerate(edges_of_both(self, ground, answer)):
            ring_lost = ring_beside_goals if player == who else ring_through_goals
            self.assertFalse(ring_lost(edges, goals), (ground, who, goals))
            for number in edges:
                self.assertTrue(set(ground[number][3]) & set(edges), (ground, who, goals))
        return answer[0]


class Again(Judging):
    def told(self, ground, who, goals, winners, moves):
        self.assertEqual(again(ground, who, goals), (winners, moves))
        self.judged(ground, who, goals)

    def test_names_and_arguments(self):
        self.assertEqual(list(inspect.signature(again).parameters), ["ground", "who", "goals"])

    def test_by_hand(self):
        self.told(SIX, 0, (3,), (1, 1, 1, 0, 1, 1), (None, 0, 2, 3, 5, None))
        self.told(SIX, 1, (3,), (0, 1, 0, 1, 1, 1), (2, 3, None, None, 3, None))

    def test_by_hand_with_the_players_exchanged(self):
        other = exchanged_by_hand(SIX)
        self.told(other, 1, (3,), (0, 0, 0, 1, 0, 0), (None, 0, 2, 3, 5, None))
        self.told(other, 0, (3,), (1, 0, 1, 0, 0, 0), (2, 3, None, None, 3, None))

    def test_coming_once_is_not_enough(self):
        ground = ((0, 0, 0, (1,)), (1, 0, 0, (2,)), (0, 0, 0, (2,)))
        self.told(ground, 0, (1,), (1, 1, 1), (None, 2, None))
        self.told(ground, 1, (1,), (0, 0, 0), (1, None, 2))
        self.told(ground, 0, (2,), (0, 0, 0), (1, None, 2))
        self.told(ground, 1, (2,), (1, 1, 1), (None, 2, None))

    def test_one_of_the_goals_is_enough(self):
        ground = ((1, 0, 0, (1, 2)), (0, 0, 0, (0, 3)), (0, 0, 0, (0, 3)), (0, 0, 0, (3,)))
        self.told(ground, 0, (1, 2), (0, 0, 0, 1), (None, 0, 0, None))
        self.told(ground, 0, (1,), (1, 1, 1, 1), (2, None, None, None))

    def test_a_goal_that_leads_to_the_other_ones_places(self):
        # From 1 who may go on to 2, from which it can't come back, or to 0.
        ground = ((1, 0, 0, (1,)), (0, 0, 0, (0, 2)), (0, 0, 0, (2,)))
        self.told(ground, 0, (1,), (0, 0, 1), (None, 0, None))
        # Each goal but the last is lost since the next one is.
        ground = ((1, 0, 0, (0, 1)), (1, 0, 0, (1, 2)), (1, 0, 0, (2, 3)), (0, 0, 0, (3,)))
        self.told(ground, 0, (0, 1, 2), (1, 1, 1, 1), (1, 2, 3, None))

    def test_goals_empty_and_all(self):
        for ground in GROUNDS + (SIX,):
            for who in (0, 1):
                self.assertEqual(self.judged(ground, who, ()), (1 - who,) * len(ground))
                self.assertEqual(self.judged(ground, who, tuple(range(len(ground)))), (who,) * len(ground))

    def test_one_place(self):
        for owner in (0, 1):
            for who in (0, 1):
                ground = ((owner, 5, -3, (0,)),)
                self.told(ground, who, (0,), (who,), (0,) if owner == who else (None,))
                self.told(ground, who, (), (1 - who,), (0,) if owner != who else (None,))

    def test_a_circle_of_24_places(self):
        for who in (0, 1):
            for goal in range(24):
                moves = tuple((k + 1) % 24 if k % 2 == who else None for k in range(24))
                self.told(circle(24), who, (goal,), (who,) * 24, moves)

    def test_a_full_ground_of_24_places(self):
        for who in (0, 1):
            # Whoever has a place goes to one of its own for ever, and each goal is one of who's.
            winners = self.judged(full(24), who, (who, who + 2))
            self.assertEqual(winners, tuple(k % 2 for k in range(24)))
            # Here the one goal belongs to the other one, which goes on from it to another of its own.
            winners = self.judged(full(24), who, (1 - who,))
            self.assertEqual(winners, (1 - who,) * 24)

    def test_all_goals_of_small_grounds(self):
        for ground in (ONE, TWO, FOUR, SIX, full(4), circle(5)) + tuple(drawn_grounds(21, 40, 5, 3)):
            for goals in all_some(range(len(ground))):
                for who in (0, 1):
                    winners = self.judged(ground, who, goals)
                    found = {number for number in range(len(ground)) if winners[number] == who}
                    self.assertEqual(found, won_by_plans(ground, who, goals))

    def test_drawn_grounds(self):
        chance = random.Random(22)
        for most_goals in (2, 3, 5, 24):
            for ground in drawn_grounds(23 + most_goals, 80, 24, most_goals):
                goals = drawn_some(chance, range(len(ground)))
                for who in (0, 1):
                    self.judged(ground, who, goals)
                    self.judged(ground, who, goals[:2])

    def test_grounds_of_24_places_that_take_many_rounds(self):
        # The last stays for ever by the other one's choice; each goal is lost a round behind the next one.
        start = time.process_time()
        for who in (0, 1):
            ground = tuple((1 - who, 0, 0, (k, k + 1)) for k in range(23)) + ((who, 0, 0, (23,)),)
            self.assertEqual(self.judged(ground, who, tuple(range(23))), (1 - who,) * 24)
            ground = tuple((who, 0, 0, (max(k - 1, 0), k)) for k in range(24))
            self.assertEqual(self.judged(ground, who, (0,)), (who,) * 24)
            back = tuple((k % 2, 0, 0, tuple(range(min(k + 2, 24)))) for k in range(24))
            for goal in range(24):
                self.judged(back, who, (goal,))
        self.assertLess(time.process_time() - start, 60)


class Refused(unittest.TestCase):
    def refused(self, ground, who, goals):
        before = repr((ground, goals))
        with self.assertRaises(NoPart, msg=before) as caught:
            again(ground, who, goals)
        self.assertIs(type(caught.exception), NoPart)
        self.assertEqual(repr((ground, goals)), before)

    def test_not_some_places(self):
        for who in (0, 1):
            for goals in ((6,), (-1,), (0, 6), (3, 2), (2, 2), (0, 1, 2, 3, 4, 5, 6), [0], [], "", (True,), (False,)):
                self.refused(SIX, who, goals)
            for ground in GROUNDS:
                self.refused(ground, who, (len(ground),))
                self.refused(ground, who, tuple(range(len(ground) + 1)))

    def test_strangers(self):
        for thing in strangers() + [0, 1, 3]:
            if thing != () or not isinstance(thing, tuple):
                for who in (0, 1):
                    self.refused(SIX, who, thing)

    def test_taken_by_each_name(self):
        for kind in (NoPart, GroundError, ValueError):
            with self.assertRaises(kind):
                again(ONE, 0, (1,))


class AskedTwice(unittest.TestCase):
    def test_twice_the_same_and_nothing_changed(self):
        chance = random.Random(24)
        for ground in drawn_grounds(25, 60, 24, 4):
            goals = drawn_some(chance, range(len(ground)))
            before = repr((ground, goals))
            first = again(ground, 0, goals)
            between = again(ground, 1, goals)
            self.assertEqual(again(ground, 0, goals), first)
            self.assertEqual(again(ground, 1, goals), between)
            self.assertEqual(repr((ground, goals)), before)


if __name__ == "__main__":
    unittest.main()
