"""Points 0.2 and 4.1: the highest mark that comes again and again is even or odd."""

import inspect
import random
import time
import unittest

from duelground.again import again
from duelground.marks import won
from tests.plays import (
    drawn, drawn_grounds, drawn_some, edges_from, edges_of_both, exchanged_by_hand, lost_by_marks, plans,
)
from tests.samples import FOUR, GROUNDS, HARD, ONE, SIX, TWO, circle, full, only_plain


def won_by_plans(ground, who):
    """The places from which one plan of who, going by the place alone, wins every play."""
    found = set()
    everywhere = range(len(ground))
    for plan in plans(ground, everywhere, who):
        for start in everywhere:
            if not lost_by_marks(ground, who, edges_from(ground, everywhere, who, plan, start)):
                found.add(start)
    return found


class Judging(unittest.TestCase):
    def judged(self, ground):
        answer = won(ground)
        only_plain(self, answer)
        for player, edges in enumerate(edges_of_both(self, ground, answer)):
            self.assertFalse(lost_by_marks(ground, player, edges), ground)
        return answer[0]


class Won(Judging):
    def told(self, ground, winners, moves):
        self.assertEqual(won(ground), (winners, moves))
        self.judged(ground)

    def test_names_and_arguments(self):
        self.assertEqual(list(inspect.signature(won).parameters), ["ground"])

    def test_by_hand(self):
        self.told(SIX, (0, 0, 0, 0, 1, 1), (1, None, 3, 2, 5, None))

    def test_by_hand_with_the_players_exchanged(self):
        self.told(exchanged_by_hand(SIX), (1, 1, 1, 1, 0, 0), (1, None, 3, 2, 5, None))

    def test_the_highest_mark_that_comes_again(self):
        # The 12 and the 11 come once alone; then the ring of 2 and 1 is gone round for ever.
        ground = ((0, 12, 0, (1,)), (1, 11, 0, (2,)), (0, 1, 0, (3,)), (1, 2, 0, (2,)))
        self.told(ground, (0, 0, 0, 0), (1, None, 3, None))
        ground = ((0, 12, 0, (1,)), (1, 11, 0, (2,)), (0, 1, 0, (3,)), (1, 0, 0, (2,)))
        self.told(ground, (1, 1, 1, 1), (None, 2, None, 2))

    def test_the_highest_not_the_lowest_nor_the_most(self):
        ground = ((0, 1, 0, (1,)), (0, 1, 0, (2,)), (0, 2, 0, (0,)))
        self.told(ground, (0, 0, 0), (1, 2, 0))
        ground = ((0, 2, 0, (1,)), (0, 2, 0, (2,)), (0, 3, 0, (0,)))
        self.told(ground, (1, 1, 1), (None, None, None))

    def test_a_choice_of_rings(self):
        for who in (0, 1):
            # From 0 lead ways to a ring that 0 wins and to one that 1 wins.
            ground = ((who, 7, 0, (1, 2)), (1 - who, 8, 0, (1,)), (1 - who, 9, 0, (2,)))
            moves = (1, None, 2) if who == 0 else (2, 1, None)
            self.told(ground, (who, 0, 1), moves)

    def test_gains_do_not_count(self):
        for ground in drawn_grounds(31, 50, 12, 3):
            without = tuple((who, mark, 0, goals) for who, mark, gain, goals in ground)
            self.assertEqual(won(ground), won(without))

    def test_one_place(self):
        for owner in (0, 1):
            for mark in range(13):
                ground = ((owner, mark, 0, (0,)),)
                self.told(ground, (mark % 2,), (0,) if owner == mark % 2 else (None,))

    def test_marks_0_and_12(self):
        for mark in (0, 1, 11, 12):
            for count in (1, 2, 24):
                ground = tuple((k % 2, mark, 0, tuple(range(count))) for k in range(count))
                self.assertEqual(self.judged(ground), (mark % 2,) * count)
        ground = ((0, 0, 0, (0, 1)), (1, 12, 0, (0, 1)), (1, 11, 0, (1, 2)), (0, 11, 0, (2, 3)))
        self.assertEqual(self.judged(ground), (0, 0, 1, 1))

    def test_grounds_of_24_places(self):
        self.assertEqual(self.judged(circle(24)), (0,) * 24)
        self.assertEqual(self.judged(full(24)), tuple(k % 2 for k in range(24)))
        self.assertEqual(self.judged(exchanged_by_hand(circle(11))), (1,) * 11)

    def test_other_samples(self):
        for ground in GROUNDS:
            self.judged(ground)

    def test_small_grounds_by_plans(self):
        grounds = drawn_grounds(32, 150, 5, 3, 3) + drawn_grounds(33, 150, 6, 3, 6) + drawn_grounds(34, 150, 6, 2)
        for ground in grounds + [ONE, TWO, FOUR, SIX, full(4), circle(5)]:
            winners = self.judged(ground)
            for who in (0, 1):
                found = {number for number in range(len(ground)) if winners[number] == who}
                self.assertEqual(found, won_by_plans(ground, who))

    def test_drawn_grounds(self):
        for most_goals in (2, 3, 5, 24):
            for most_mark in (1, 4, 12):
                for ground in drawn_grounds(35 + most_goals * 100 + most_mark, 60, 24, most_goals, most_mark):
                    self.judged(ground)

    def test_drawn_grounds_of_24_places(self):
        chance = random.Random(36)
        for _ in range(100):
            self.judged(drawn(chance, 24, 3))

    def test_two_marks_are_coming_again(self):
        chance = random.Random(37)
        for ground in drawn_grounds(38, 150, 24, 3):
            goals = drawn_some(chance, range(len(ground)))
            two = tuple((who, 1 + (k in goals), gain, ways) for k, (who, _, gain, ways) in enumerate(ground))
            self.assertEqual(won(two)[0], again(ground, 0, goals)[0])
            three = tuple((who, 2 + (k in goals), gain, ways) for k, (who, _, gain, ways) in enumerate(ground))
            self.assertEqual(won(three)[0], again(ground, 1, goals)[0])

    def test_the_other_winner_where_the_players_are_exchanged(self):
        for ground in drawn_grounds(39, 100, 24, 3, 11) + list(HARD):
            other = exchanged_by_hand(ground)
            self.assertEqual(self.judged(other), tuple(1 - winner for winner in won(ground)[0]))


class Hard(Judging):
    def test_each_ends_in_time(self):
        for ground in HARD:
            self.assertEqual(len(ground), 24)
            start = time.process_time()
            self.judged(ground)
            self.assertLess(time.process_time() - start, 30)


class AskedTwice(unittest.TestCase):
    def test_twice_the_same_and_nothing_changed(self):
        grounds = drawn_grounds(40, 60, 24, 4)
        before = repr(grounds)
        first = [won(ground) for ground in grounds]
        self.assertEqual([won(ground) for ground in reversed(grounds)][::-1], first)
        self.assertEqual(repr(grounds), before)


if __name__ == "__main__":
    unittest.main()
