"""Points 0.2 and 5.1: whether moves win by marks from some places, never leaving them."""

import inspect
import random
import unittest

from duelground.checking import holds
from duelground.errors import GroundError, NoMoves, NoPart
from duelground.marks import won
from tests.plays import (
    all_rings, all_some, drawn_grounds, drawn_moves, drawn_some, edges_by, exchanged_by_hand, lost_by_marks,
    part_of_winner, plans, stays,
)
from tests.samples import FOUR, GROUNDS, HARD, ONE, SIX, TWO, circle, full, replaced, spoiled, strangers, told_twice

# The moves by which 0 and 1 win on SIX.
ZERO = (1, None, 3, 2, None, None)
ONES = (None, None, None, None, 5, None)


def holds_by_rings(ground, who, places, moves):
    """The point's own words: where the play may go on, and each ring by itself."""
    edges = edges_by(ground, who, places, moves)
    return stays(edges) and all(max(ground[number][1] for number in ring) % 2 == who for ring in all_rings(edges))


def holds_by_marks(ground, who, places, moves):
    edges = edges_by(ground, who, places, moves)
    return stays(edges) and not lost_by_marks(ground, who, edges)


class Holds(unittest.TestCase):
    def told(self, expected, ground, who, places, moves):
        self.assertIs(holds(ground, who, places, moves), expected, (ground, who, places, moves))
        if max(place[1] for place in ground) < 12:
            self.assertIs(holds(exchanged_by_hand(ground), 1 - who, places, moves), expected)

    def test_names_and_arguments(self):
        self.assertEqual(list(inspect.signature(holds).parameters), ["ground", "who", "places", "moves"])

    def test_by_hand(self):
        self.told(True, SIX, 0, (0, 1, 2, 3), ZERO)
        self.told(True, SIX, 1, (4, 5), ONES)
        self.told(False, SIX, 1, (0, 1, 2, 3), ZERO)
        self.told(False, SIX, 0, (4, 5), ONES)

    def test_no_places(self):
        for ground in GROUNDS + (SIX,):
            for who in (0, 1):
                self.told(True, ground, who, (), (None,) * len(ground))
                self.told(True, ground, who, (), tuple(place[3][0] for place in ground))

    def test_a_part_that_is_won(self):
        self.told(True, SIX, 0, (2, 3), ZERO)
        # The moves at other places don't count, whatever they are.
        self.told(True, SIX, 0, (2, 3), (None, None, 3, 2, None, None))
        self.told(True, SIX, 0, (2, 3), (1, 0, 3, 2, 0, 4))

    def test_a_part_that_is_left(self):
        # The other one goes from 1 to 2.
        self.told(False, SIX, 0, (0, 1), ZERO)
        # A move of who goes from 0 to 1, from 2 to 3, from 3 to 2.
        for places in ((0,), (2,), (3,), (0, 2, 3), (1, 2, 3), (0, 1, 3), (0, 1, 2)):
            self.told(False, SIX, 0, places, ZERO)
        self.told(False, SIX, 1, (4,), ONES)
        self.told(False, SIX, 1, (5,), ONES)

    def test_more_places_than_are_won(self):
        self.told(False, SIX, 0, (0, 1, 2, 3, 4, 5), (1, None, 3, 2, None, 4))
        self.told(False, SIX, 0, (0, 1, 2, 3, 5), (1, None, 3, 2, None, 4))

    def test_a_changed_move_that_leaves_the_places(self):
        self.told(False, SIX, 1, (4, 5), (None, None, None, None, 0, None))
        ground = ((0, 2, 0, (0, 1)), (1, 4, 0, (1,)))
        self.told(True, ground, 0, (0,), (0, None))
        self.told(False, ground, 0, (0,), (1, None))
        # Where all is won the same move leads to another place that is won.
        self.told(True, ground, 0, (0, 1), (1, None))

    def test_a_changed_move_that_makes_a_ring_of_the_other_one(self):
        self.told(False, SIX, 0, (0, 1, 2, 3), (1, None, 2, 2, None, None))
        self.told(False, SIX, 0, (2, 3), (1, None, 2, 2, None, None))

    def test_a_place_of_who_without_a_move(self):
        for number in (0, 2, 3):
            self.told(False, SIX, 0, (0, 1, 2, 3), replaced(ZERO, number, None))
        self.told(False, SIX, 1, (4, 5), (None,) * 6)
        self.told(False, ONE, 0, (0,), (None,))

    def test_the_other_ones_moves_do_not_count(self):
        # 1 may go from 1 to 2, whatever move is told there.
        ground = ((0, 2, 0, (1,)), (1, 0, 0, (0, 2)), (1, 1, 0, (2,)))
        self.told(False, ground, 0, (0, 1), (1, 0, None))
        self.told(False, ground, 0, (0, 1, 2), (1, 0, None))
        ground = ((0, 2, 0, (1,)), (1, 0, 0, (0, 1)))
        self.told(True, ground, 0, (0, 1), (1, 0))
        ground = ((0, 2, 0, (1,)), (1, 1, 0, (0, 1)))
        self.told(False, ground, 0, (0, 1), (1, 0))

    def test_a_ring_of_one_place(self):
        for owner in (0, 1):
            for mark in range(13):
                ground = ((owner, mark, 0, (0,)),)
                for who in (0, 1):
                    self.told(mark % 2 == who, ground, who, (0,), (0,))
                    self.told(mark % 2 == who and owner != who, ground, who, (0,), (None,))

    def test_the_highest_mark_of_a_ring_counts(self):
        for marks, winner in (((1, 1, 2), 0), ((2, 1, 1), 0), ((3, 2, 2), 1), ((2, 2, 3), 1), ((0, 10, 11), 1),
                              ((12, 11, 11), 0), ((0, 0, 0), 0)):
            ground = tuple((0, mark, 0, ((k + 1) % 3,)) for k, mark in enumerate(marks))
            for who in (0, 1):
                self.told(winner == who, ground, who, (0, 1, 2), (1, 2, 0))

    def test_a_high_mark_that_does_not_come_again(self):
        # The 11 stands ahead of the ring of 2 and 1, not in it.
        ground = ((0, 11, 0, (1,)), (0, 2, 0, (2,)), (0, 1, 0, (1,)))
        self.told(True, ground, 0, (0, 1, 2), (1, 2, 1))
        self.told(False, ground, 1, (0, 1, 2), (1, 2, 1))

    def test_each_ring_counts_not_the_greatest_alone(self):
        # Through 0 go a ring with 1 and one with 2; both together would have the 4 of 2.
        ground = ((1, 0, 0, (1, 2)), (0, 3, 0, (0,)), (0, 4, 0, (0,)))
        self.told(False, ground, 0, (0, 1, 2), (None, 0, 0))
        ground = ((1, 0, 0, (1, 2)), (0, 2, 0, (0,)), (0, 4, 0, (0,)))
        self.told(True, ground, 0, (0, 1, 2), (None, 0, 0))

    def test_small_grounds_by_their_rings(self):
        for ground in drawn_grounds(61, 40, 4, 3, 4) + [ONE, TWO, FOUR, full(3)]:
            for who in (0, 1):
                for places in all_some(range(len(ground))):
                    for plan in plans(ground, range(len(ground)), who):
                        self.assertIs(holds(ground, who, places, plan), holds_by_rings(ground, who, places, plan))

    def test_greater_grounds_by_their_rings(self):
        chance = random.Random(62)
        seen = {True: 0, False: 0}
        for ground in drawn_grounds(63, 600, 10, 2) + drawn_grounds(64, 600, 7, 3, 5):
            who = chance.randint(0, 1)
            moves = drawn_moves(chance, ground)
            for places in (tuple(range(len(ground))), drawn_some(chance, range(len(ground)))):
                expected = holds_by_rings(ground, who, places, moves)
                self.assertIs(holds(ground, who, places, moves), expected, (ground, who, places, moves))
                seen[expected] += 1
        self.assertGreater(min(seen.values()), 100)


class OfWon(unittest.TestCase):
    def both(self, ground):
        winners, moves = won(ground)
        return [(who, part_of_winner(winners, who), moves) for who in (0, 1)]

    def test_the_told_moves_hold_for_both(self):
        grounds = drawn_grounds(65, 150, 24, 3) + drawn_grounds(66, 100, 24, 24) + drawn_grounds(67, 50, 6, 2, 3)
        for ground in grounds + list(GROUNDS + HARD + (SIX,)):
            for who, places, moves in self.both(ground):
                self.assertIs(holds(ground, who, places, moves), True, ground)
                if places:
                    self.assertIs(holds(ground, 1 - who, places, moves), False, ground)

    def test_no_moves_hold_where_the_other_one_wins(self):
        for ground in drawn_grounds(68, 60, 5, 3, 5):
            for who, places, _ in self.both(ground):
                for plan in plans(ground, range(len(ground)), who):
                    for some in all_some(range(len(ground))):
                        if not set(some) <= set(places):
                            self.assertIs(holds(ground, who, some, plan), False)

    def test_one_move_taken_away(self):
        for ground in drawn_grounds(69, 60, 24, 3):
            for who, places, moves in self.both(ground):
                for number in places:
                    if ground[number][0] == who:
                        self.assertIs(holds(ground, who, places, replaced(moves, number, None)), False)

    def test_one_move_changed(self):
        seen = {True: 0, False: 0}
        for ground in drawn_grounds(70, 100, 24, 3):
            for who, places, moves in self.both(ground):
                for number in places:
                    for goal in ground[number][3]:
                        changed = replaced(moves, number, goal)
                        expected = holds_by_marks(ground, who, places, changed)
                        self.assertIs(holds(ground, who, places, changed), expected, (ground, who, changed))
                        if ground[number][0] == who and goal not in places:
                            self.assertFalse(expected)
                        seen[expected] += 1
        self.assertGreater(min(seen.values()), 100)


class Refused(unittest.TestCase):
    def refused(self, kind, ground, who, places, moves):
        before = repr((ground, places, moves))
        with self.assertRaises(kind, msg=before) as caught:
            holds(ground, who, places, moves)
        self.assertIs(type(caught.exception), kind)
        self.assertEqual(repr((ground, places, moves)), before)

    def test_not_some_places(self):
        for who in (0, 1):
            for places in ((6,), (-1,), (0, 6), (3, 2), (2, 2), (0, 1, 2, 3, 4, 5, 6), [0, 1, 2, 3], [], "", (True,),
                           (False, 1, 2, 3)):
                self.refused(NoPart, SIX, who, places, ZERO)
            for thing in strangers() + [0, 1, 3]:
                if thing != () or not isinstance(thing, tuple):
                    self.refused(NoPart, SIX, who, thing, ZERO)

    def test_no_moves(self):
        for who in (0, 1):
            for places in ((), (2, 3), (0, 1, 2, 3)):
                for moves in (ZERO[:-1], ZERO + (None,), (), list(ZERO), None, 0, "", replaced(ZERO, 0, 0),
                              replaced(ZERO, 5, 5), replaced(ZERO, 4, -1), replaced(ZERO, 0, True),
                              replaced(ZERO, 4, False), replaced(ZERO, 3, (2,)), replaced(ZERO, 0, 6)):
                    self.refused(NoMoves, SIX, who, places, moves)

    def test_moves_put_out_of_their_kind(self):
        for moves in spoiled((1, 2, 2, 0)):
            # A move that is taken away leaves moves.
            if not isinstance(moves, tuple) or {type(move) for move in moves} != {int, type(None)}:
                self.refused(NoMoves, FOUR, 0, (0, 1, 2), moves)

    def test_moves_that_are_wrong_beside_the_places_or_are_the_other_ones(self):
        ground = ((0, 2, 0, (0,)), (0, 2, 0, (0,)), (1, 2, 0, (0,)))
        self.refused(NoMoves, ground, 0, (0,), (0, 1, None))
        self.refused(NoMoves, ground, 0, (0,), (0, None, 2))

    def test_no_part_ahead_of_no_moves(self):
        for places in ((6,), (3, 2), [0], None, (True,)):
            for moves in ((), list(ZERO), None, replaced(ZERO, 0, 0)):
                self.refused(NoPart, SIX, 0, places, moves)

    def test_refused_ahead_of_telling_false(self):
        self.refused(NoMoves, SIX, 0, (0, 1), replaced(ZERO, 0, 0))
        self.refused(NoPart, SIX, 1, (0, 0), (None,) * 6)

    def test_taken_by_each_name(self):
        for kind in (NoPart, GroundError, ValueError):
            with self.assertRaises(kind):
                holds(ONE, 0, (1,), (0,))
        for kind in (NoMoves, GroundError, ValueError):
            with self.assertRaises(kind):
                holds(ONE, 0, (0,), (1,))


class AskedTwice(unittest.TestCase):
    def test_twice_the_same_and_nothing_changed(self):
        chance = random.Random(71)
        handed = []
        for ground in drawn_grounds(72, 60, 24, 4) + [circle(24), full(24)]:
            winners, moves = won(ground)
            for who in (0, 1):
                handed.append((ground, who, part_of_winner(winners, who), moves))
                handed.append((ground, who, drawn_some(chance, range(len(ground))), drawn_moves(chance, ground)))
        told_twice(self, holds, handed)


if __name__ == "__main__":
    unittest.main()
