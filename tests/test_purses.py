"""Points 0.2 and 6.1: the least credit with which 0 never runs out."""

import random
import time
import unittest

from duelground.purses import least_credits
from tests.plays import drawn_grounds, edges_from, plans
from tests.samples import FOUR, GROUNDS, ONE, TWO, circle, full, only_plain


def with_gains(ground, most, chance):
    return tuple((who, mark, chance.randint(-most, most), goals) for who, mark, _, goals in ground)


def few_places(seed, how_many, most_count, most_gain):
    chance = random.Random(seed)
    return [with_gains(ground, most_gain, chance) for ground in drawn_grounds(seed, how_many, most_count, 3)]


def losses(ground):
    return sum(max(0, -place[2]) for place in ground)


def credit_for_edges(ground, edges, start):
    """The least credit for all plays from a place by these ways, None where a ring loses."""
    least = {number: 0 for number in edges}
    for _ in range(len(edges) + 1):
        before = dict(least)
        for number in edges:
            least[number] = max(0, max(before[goal] for goal in edges[number]) - ground[number][2])
        if least == before:
            return least[start]
    return None


def least_by_plans(ground):
    """For each place the least credit that one plan of 0, going by the place alone, asks for."""
    everywhere = range(len(ground))
    found = [None] * len(ground)
    for plan in plans(ground, everywhere, 0):
        for start in everywhere:
            asked = credit_for_edges(ground, edges_from(ground, everywhere, 0, plan, start), start)
            if asked is not None and (found[start] is None or asked < found[start]):
                found[start] = asked
    return tuple(found)


def run_out_in(ground, most):
    """For each (place, credit behind its gain) from which 1 can force that 0 runs out, within how many choices.

    More credit than most counts as most, which is enough for ever where any is.
    """
    ranks = {}

    def rank_of(credit, goal):
        left = min(credit + ground[goal][2], most)
        return 0 if left < 0 else ranks.get((goal, left))

    while True:
        found = {}
        for number, (who, _, _, goals) in enumerate(ground):
            for credit in range(most + 1):
                known = [rank_of(credit, goal) for goal in goals]
                forced = any(rank is not None for rank in known) if who else None not in known
                if forced and (number, credit) not in ranks:
                    least = min(rank for rank in known if rank is not None)
                    found[number, credit] = 1 + (least if who else max(known))
        if not found:
            return ranks
        ranks.update(found)


class Judging(unittest.TestCase):
    def told(self, ground, least, moves):
        answer = least_credits(ground)
        only_plain(self, answer)
        self.assertEqual(answer, (least, moves))

    def least_goals_told(self, ground, answer):
        least, moves = answer
        self.assertEqual((len(least), len(moves)), (len(ground), len(ground)))
        as_numbers = [10 ** 9 if credit is None else credit for credit in least]
        for (who, _, _, goals), move in zip(ground, moves):
            self.assertEqual(move, None if who else min((as_numbers[goal], goal) for goal in goals)[1])


class ByHand(Judging):
    def test_one_place(self):
        for gain in range(-20, 21):
            for owner, move in ((0, 0), (1, None)):
                self.told(((owner, 7, gain, (0,)),), (None if gain < 0 else 0,), (move,))

    def test_the_first_place_counts_too(self):
        for gain, credit in ((-20, 20), (-1, 1), (0, 0), (1, 0), (20, 0)):
            self.told(((0, 0, gain, (1,)), (0, 0, 0, (1,))), (credit, 0), (1, 1))

    def test_a_gain_bears_a_later_loss(self):
        self.told(((0, 0, 20, (1,)), (1, 0, -20, (2,)), (0, 0, 0, (2,))), (0, 20, 0), (1, None, 2))
        self.told(((0, 0, 19, (1,)), (1, 0, -20, (2,)), (0, 0, 0, (2,))), (1, 20, 0), (1, None, 2))
        # What is gained behind a loss comes too late for it, and what is gained beyond need is not asked back.
        self.told(((0, 0, -20, (1,)), (1, 0, 20, (2,)), (0, 0, -5, (3,)), (0, 0, 0, (3,))), (20, 0, 5, 0),
                  (1, None, 3, 3))

    def test_losses_add_up(self):
        ground = tuple((k % 2, 0, -20, (k + 1,)) for k in range(23)) + ((0, 0, 0, (23,)),)
        moves = tuple(None if k % 2 else k + 1 for k in range(23)) + (23,)
        self.told(ground, tuple(20 * (23 - k) for k in range(24)), moves)

    def test_a_ring_that_gains(self):
        for owner in (0, 1):
            moves = tuple(None if owner else goal for goal in (1, 2, 0))
            ground = tuple((owner, 0, gain, ((k + 1) % 3,)) for k, gain in enumerate((-20, 20, 1)))
            self.told(ground, (20, 0, 19), moves)

    def test_a_ring_that_neither_gains_nor_loses(self):
        ground = tuple((0, 0, gain, ((k + 1) % 4,)) for k, gain in enumerate((-3, -4, 2, 5)))
        self.told(ground, (7, 4, 0, 2), (1, 2, 3, 0))
        self.told(((0, 0, 0, (1,)), (1, 0, 0, (0,))), (0, 0), (1, None))
        self.told(((0, 0, -20, (1,)), (1, 0, 20, (0,))), (20, 0), (1, None))

    def test_a_ring_that_loses(self):
        self.told(((0, 0, -20, (1,)), (1, 0, 19, (0,))), (None, None), (1, None))
        self.told(((0, 0, 20, (1,)), (1, 0, -20, (2,)), (0, 0, -1, (0,))), (None, None, None), (1, None, 0))
        # Nothing that is gained ahead of it is enough.
        self.told(((0, 0, 20, (1,)), (0, 0, 20, (2,)), (1, 0, -1, (2,))), (None, None, None), (1, 2, None))

    def test_0_chooses_the_least_and_1_the_greatest(self):
        ground = ((0, 0, -1, (1, 2)), (0, 0, -7, (3,)), (0, 0, -4, (3,)), (1, 0, 0, (3,)))
        self.told(ground, (5, 7, 4, 0), (2, 3, 3, None))
        ground = ((1, 0, -1, (1, 2)), (0, 0, -7, (3,)), (0, 0, -4, (3,)), (1, 0, 0, (3,)))
        self.told(ground, (8, 7, 4, 0), (None, 3, 3, None))

    def test_no_credit_is_enough_by_the_other_ones_choice(self):
        losing = (1, 0, -1, (2,))
        for owner, credit, move in ((0, 3, 1), (1, None, None)):
            self.told(((owner, 0, -3, (1, 2)), (1, 0, 0, (1,)), losing), (credit, 0, None), (move, None, None))

    def test_a_choice_of_rings(self):
        # 0 stays at place 0 for ever, and so never comes to the loss of place 1.
        self.told(((0, 0, 1, (0, 1)), (0, 0, -20, (0,))), (0, 20), (0, 0))
        # Of the two ways round from place 1, the one through place 2 gains back what is lost.
        self.told(((0, 0, 0, (1,)), (0, 0, -20, (0, 2)), (0, 0, 20, (1,))), (20, 20, 0), (1, 2, 1))
        # The ring through place 1 gains more, but the one through place 2 asks for less.
        self.told(((0, 0, 0, (1, 2)), (0, 0, -9, (3,)), (0, 0, -8, (4,)), (0, 0, 20, (0,)), (0, 0, 8, (0,))),
                  (8, 9, 8, 0, 0), (2, 3, 4, 0, 0))

    def test_the_least_goal_of_those_with_the_least_credit(self):
        loss, even = (1, 0, -2, (4,)), (1, 0, 0, (4,))
        self.told(((0, 0, 0, (1, 2, 3)), loss, even, even, even), (0, 2, 0, 0, 0), (2, None, None, None, None))
        self.told(((0, 0, 0, (1, 2, 3)), even, loss, even, even), (0, 0, 2, 0, 0), (1, None, None, None, None))
        self.told(((0, 0, 0, (1, 2)), loss, loss, even, even), (2, 2, 2, 0, 0), (1, None, None, None, None))

    def test_the_least_goal_where_all_goals_have_none(self):
        ground = ((0, 0, 20, (1, 2, 3)), (1, 0, -1, (1,)), (1, 0, -1, (1,)), (1, 0, -20, (3,)))
        self.told(ground, (None,) * 4, (1, None, None, None))
        ground = ((0, 0, 20, (2, 3)), (1, 0, -20, (1,)), (1, 0, -20, (1,)), (1, 0, -1, (3,)))
        self.told(ground, (None,) * 4, (2, None, None, None))

    def test_none_is_greater_than_all_numbers(self):
        ground = ((0, 0, 0, (1, 2)), (1, 0, -1, (1,)), (1, 0, -20, (3,)), (1, 0, -20, (4,)), (1, 0, 0, (4,)))
        self.told(ground, (40, None, 40, 20, 0), (2, None, None, None, None))

    def test_marks_do_not_count(self):
        for ground in drawn_grounds(101, 60, 24, 3):
            without = tuple((who, 0, gain, goals) for who, _, gain, goals in ground)
            self.assertEqual(least_credits(without), least_credits(ground))


class Drawn(Judging):
    def grounds(self):
        return few_places(102, 120, 5, 3) + few_places(103, 120, 5, 20) + [ONE, TWO, FOUR, full(4), circle(5)]

    def test_all_plans(self):
        seen = {True: 0, False: 0}
        for ground in self.grounds() + few_places(104, 60, 7, 1):
            answer = least_credits(ground)
            only_plain(self, answer)
            self.assertEqual(answer[0], least_by_plans(ground), ground)
            self.least_goals_told(ground, answer)
            for credit in answer[0]:
                seen[credit is None] += 1
        self.assertGreater(min(seen.values()), 100)

    def test_the_told_moves_are_enough_for_every_play(self):
        for ground in drawn_grounds(105, 150, 24, 3) + few_places(106, 150, 24, 2) + list(GROUNDS):
            answer = least_credits(ground)
            self.least_goals_told(ground, answer)
            for start, credit in enumerate(answer[0]):
                if credit is not None:
                    edges = edges_from(ground, range(len(ground)), 0, answer[1], start)
                    self.assertEqual(credit_for_edges(ground, edges, start), credit, ground)

    def test_plays_by_the_told_moves_never_run_out(self):
        chance = random.Random(107)
        for ground in self.grounds() + drawn_grounds(108, 30, 24, 3):
            least, moves = least_credits(ground)
            for start, credit in enumerate(least):
                number = start
                for _ in range(0 if credit is None else 100):
                    credit += ground[number][2]
                    self.assertGreaterEqual(credit, 0, (ground, start))
                    number = moves[number] if ground[number][0] == 0 else chance.choice(ground[number][3])

    def test_with_one_less_the_other_one_forces_that_0_runs_out(self):
        chance = random.Random(109)
        for ground in self.grounds():
            most = losses(ground)
            ranks = run_out_in(ground, most)
            for start, credit in enumerate(least_credits(ground)[0]):
                # No credit up to most is enough where none is, and more than most is nowhere asked for.
                if credit is None:
                    self.runs_out(ground, most, ranks, chance, start, most)
                else:
                    self.assertLessEqual(credit, most)
                    self.assertNotIn((start, min(credit + ground[start][2], most)), ranks)
                    if credit > 0:
                        self.runs_out(ground, most, ranks, chance, start, credit - 1)

    def runs_out(self, ground, most, ranks, chance, start, credit):
        """A play in which 1 goes where the least number of choices is left, and 0 as it is drawn."""
        number = start
        credit = min(credit + ground[start][2], most)
        while credit >= 0:
            rank = ranks[number, credit]
            after = {goal: min(credit + ground[goal][2], most) for goal in ground[number][3]}
            left = {goal: 0 if after[goal] < 0 else ranks.get((goal, after[goal])) for goal in after}
            if ground[number][0] == 1:
                left = {goal: choices for goal, choices in left.items() if choices == rank - 1}
            number = chance.choice(sorted(left))
            self.assertLess(left[number], rank)
            credit = after[number]


class Hard(Judging):
    def in_time(self, ground, least, moves):
        self.assertEqual(len(ground), 24)
        start = time.process_time()
        self.told(ground, least, moves)
        self.assertLess(time.process_time() - start, 30)

    def alternating(self, last):
        ring = tuple((0, 0, (-20, 20)[k % 2], (k + 1,)) for k in range(23))
        return ring + ((1, 0, last, (0,)),)

    def test_a_ring_that_loses_little(self):
        # What is needed rises by 1 in 24 steps, to 240: some 5,300 rounds.
        moves = tuple(range(1, 24)) + (None,)
        self.in_time(self.alternating(19), (None,) * 24, moves)
        self.in_time(self.alternating(20), (20, 0) * 12, moves)

    def test_what_is_needed_rises_high_beside_a_ring_that_loses_little(self):
        for ring in range(2, 23):
            losing = tuple((k % 2, 0, -1 if k == 0 else 0, ((k + 1) % ring,)) for k in range(ring))
            chain = tuple((1, 0, -20, (min(k + 1, 23),)) for k in range(ring, 23)) + ((1, 0, 0, (23,)),)
            least = (None,) * ring + tuple(20 * (23 - k) for k in range(ring, 24))
            moves = tuple(None if k % 2 else (k + 1) % ring for k in range(ring)) + (None,) * (24 - ring)
            self.in_time(losing + chain, least, moves)

    def test_full_grounds(self):
        everywhere = tuple(range(24))
        for owners in ((0,) * 24, (1,) * 24, (0, 1) * 12):
            ground = tuple((owner, 0, -20 if k else -1, everywhere) for k, owner in enumerate(owners))
            self.in_time(ground, (None,) * 24, tuple(None if owner else 0 for owner in owners))


if __name__ == "__main__":
    unittest.main()
