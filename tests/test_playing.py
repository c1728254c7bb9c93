"""Points 0.2 and 5.2: the ring that the moves of both come to, and who wins it by marks."""

import inspect
import itertools
import random
import unittest

from duelground.errors import GroundError, NoMoves, NoPart
from duelground.marks import won
from duelground.playing import judged, ring_of
from tests.plays import all_rings, drawn_grounds, drawn_moves
from tests.samples import (
    FOUR, GROUNDS, HARD, ONE, TWO, circle, full, only_plain, replaced, spoiled, strangers, told_twice,
)

# By the moves below the play goes 4, 0, 1, 2 and from there to 1 for ever; 3 stays, 5 goes to it.
SIX = (
    (0, 4, 0, (1, 3)),
    (1, 3, 0, (0, 2)),
    (0, 1, 0, (1, 2)),
    (0, 2, 0, (2, 3)),
    (1, 5, 0, (0, 5)),
    (0, 0, 0, (3, 4)),
)
ZERO = (1, None, 1, 3, None, 3)
ONES = (None, 2, None, None, 0, None)


def moves_of(who, ground, moves):
    """The moves at the places of who alone."""
    return tuple(move if place[0] == who else None for move, place in zip(moves, ground))


def drawn_beside(chance, ground, winners, moves, who):
    """The told moves of who, and drawn ones where none is told, for a play asks for a move everywhere."""
    drawn = drawn_moves(chance, ground)
    mine = [place[0] == who and winner == who for place, winner in zip(ground, winners)]
    return tuple(moves[number] if mine[number] else drawn[number] for number in range(len(ground)))


def rings_of(ground):
    return all_rings({number: place[3] for number, place in enumerate(ground)})


class RingOf(unittest.TestCase):
    def told(self, ground, zero, one, start, way, ring):
        answer = ring_of(ground, zero, one, start)
        only_plain(self, answer)
        self.assertEqual(answer, (way, ring))

    def test_names_and_arguments(self):
        self.assertEqual(list(inspect.signature(ring_of).parameters), ["ground", "zero", "one", "start"])

    def test_a_start_on_the_ring(self):
        self.told(SIX, ZERO, ONES, 1, (), (1, 2))
        self.told(SIX, ZERO, ONES, 2, (), (2, 1))

    def test_a_start_ahead_of_the_ring(self):
        self.told(SIX, ZERO, ONES, 0, (0,), (1, 2))
        self.told(SIX, ZERO, ONES, 4, (4, 0), (1, 2))
        # The ring is entered elsewhere, so it begins elsewhere.
        ground = replaced(SIX, 0, (0, 4, 0, (2, 3)))
        self.told(ground, replaced(ZERO, 0, 2), ONES, 4, (4, 0), (2, 1))

    def test_a_ring_of_one_place(self):
        self.told(SIX, ZERO, ONES, 3, (), (3,))
        self.told(SIX, ZERO, ONES, 5, (5,), (3,))
        self.told(ONE, (0,), (None,), 0, (), (0,))
        self.told(((1, 0, 0, (0,)),), (None,), (0,), 0, (), (0,))

    def test_a_ring_of_all_places(self):
        for count in (1, 2, 3, 24):
            ground = circle(count)
            moves = tuple((k + 1) % count for k in range(count))
            for start in range(count):
                ring = tuple((start + k) % count for k in range(count))
                self.told(ground, moves_of(0, ground, moves), moves_of(1, ground, moves), start, (), ring)

    def test_a_way_through_all_places_but_one(self):
        for count in (2, 24):
            moves = tuple(min(k + 1, count - 1) for k in range(count))
            for start in range(count):
                self.told(full(count), moves, moves, start, tuple(range(start, count - 1)), (count - 1,))

    def test_each_one_goes_by_its_own_moves(self):
        ground = ((0, 0, 0, (0, 1)), (1, 0, 0, (0, 1)))
        self.told(ground, (1, 1), (0, 0), 0, (), (0, 1))
        self.told(ground, (0, 0), (1, 1), 0, (), (0,))
        self.told(ground, (0, 0), (1, 1), 1, (), (1,))
        self.told(ground, (0, 1), (1, 0), 1, (1,), (0,))
        self.told(ground, (1, 0), (0, 1), 0, (0,), (1,))

    def test_moves_at_the_other_ones_places_do_not_count(self):
        chance = random.Random(81)
        for ground in drawn_grounds(82, 60, 24, 3):
            zero, one = drawn_moves(chance, ground), drawn_moves(chance, ground)
            for start in range(len(ground)):
                answer = ring_of(ground, zero, one, start)
                self.assertEqual(ring_of(ground, moves_of(0, ground, zero), moves_of(1, ground, one), start), answer)

    def test_drawn_plays(self):
        chance = random.Random(83)
        for most_goals in (1, 2, 24):
            for ground in drawn_grounds(84 + most_goals, 60, 24, most_goals):
                moves = (drawn_moves(chance, ground), drawn_moves(chance, ground))
                for start in range(len(ground)):
                    answer = ring_of(ground, moves[0], moves[1], start)
                    only_plain(self, answer)
                    way, ring = answer
                    # No place twice: so the way is as short as can be, and the ring is gone round once.
                    self.assertEqual(len(set(way + ring)), len(way + ring))
                    self.assertGreater(len(ring), 0)
                    self.assertEqual((way + ring)[0], start)
                    gone_on = [moves[ground[number][0]][number] for number in way + ring]
                    self.assertEqual(tuple(gone_on), (way + ring)[1:] + ring[:1])


class RingRefused(unittest.TestCase):
    def refused(self, kind, ground, zero, one, start):
        before = repr((ground, zero, one, start))
        with self.assertRaises(kind, msg=before) as caught:
            ring_of(ground, zero, one, start)
        self.assertIs(type(caught.exception), kind)
        self.assertEqual(repr((ground, zero, one, start)), before)

    def both_ways(self, moves, start):
        self.refused(NoMoves, SIX, moves, ONES, start)
        self.refused(NoMoves, SIX, ZERO, moves, start)
        self.refused(NoMoves, SIX, moves, moves, start)

    def test_no_moves(self):
        for thing in strangers() + [0, 1, (), ZERO[:-1], ZERO + (None,), list(ZERO), (0, 1, 2, 3, 4, 5)]:
            self.both_ways(thing, 3)

    def test_moves_to_where_a_place_does_not_lead(self):
        for number, place in enumerate(SIX):
            for goal in (-1, 6, True, False, "0", (3,)) + tuple(set(range(6)) - set(place[3])):
                self.refused(NoMoves, SIX, replaced(ZERO, number, goal), ONES, 3)
                self.refused(NoMoves, SIX, ZERO, replaced(ONES, number, goal), 3)

    def test_moves_put_out_of_their_kind(self):
        right = (1, 2, 2, 0)
        for moves in spoiled(right):
            # A move that is taken away leaves moves.
            if not isinstance(moves, tuple) or {type(move) for move in moves} != {int, type(None)}:
                self.refused(NoMoves, FOUR, moves, right, 0)
                self.refused(NoMoves, FOUR, right, moves, 0)

    def test_a_place_without_a_move_of_its_own_player(self):
        # The play from 3 stays there, but each place is asked for a move, not those alone that the play comes to.
        for number, place in enumerate(SIX):
            if place[0] == 0:
                self.refused(NoMoves, SIX, replaced(ZERO, number, None), ONES, 3)
                self.refused(NoMoves, SIX, replaced(ZERO, number, None), replaced(ONES, number, place[3][0]), 3)
            else:
                self.refused(NoMoves, SIX, ZERO, replaced(ONES, number, None), 3)
                self.refused(NoMoves, SIX, replaced(ZERO, number, place[3][0]), replaced(ONES, number, None), 3)
        self.refused(NoMoves, SIX, ONES, ZERO, 3)
        self.refused(NoMoves, ONE, (None,), (0,), 0)

    def test_start_is_no_place(self):
        for start in (6, 7, 24, -1, -6, True, False, None, "", "0", (0,), [0], (), 10 ** 30):
            self.refused(NoPart, SIX, ZERO, ONES, start)
        for thing in strangers():
            self.refused(NoPart, SIX, ZERO, ONES, thing)
        for ground in GROUNDS:
            moves = tuple(place[3][0] for place in ground)
            self.refused(NoPart, ground, moves, moves, len(ground))
            self.refused(NoPart, ground, moves, moves, -1)

    def test_no_moves_ahead_of_no_part(self):
        for start in (6, -1, True, None, "0", (0,)):
            self.both_ways(None, start)
            self.both_ways(list(ZERO), start)
            self.both_ways((0, 1, 2, 3, 4, 5), start)
            self.refused(NoMoves, SIX, replaced(ZERO, 5, None), ONES, start)
            self.refused(NoMoves, SIX, ZERO, replaced(ONES, 4, None), start)

    def test_taken_by_each_name(self):
        for kind in (NoMoves, GroundError, ValueError):
            with self.assertRaises(kind):
                ring_of(ONE, (1,), (0,), 0)
        for kind in (NoPart, GroundError, ValueError):
            with self.assertRaises(kind):
                ring_of(ONE, (0,), (0,), 1)


class Judged(unittest.TestCase):
    def told(self, ground, ring, winner):
        self.assertEqual(judged(ground, ring), winner)
        only_plain(self, judged(ground, ring))

    def test_names_and_arguments(self):
        self.assertEqual(list(inspect.signature(judged).parameters), ["ground", "ring"])

    def test_a_ring_of_one_place(self):
        for owner in (0, 1):
            for mark in range(13):
                self.told(((owner, mark, 0, (0,)),), (0,), mark % 2)

    def test_by_hand(self):
        self.told(SIX, (1, 2), 1)
        self.told(SIX, (2, 1), 1)
        self.told(SIX, (0, 1), 0)
        self.told(SIX, (3,), 0)
        self.told(SIX, (2,), 1)
        self.told(SIX, (0, 3, 2, 1), 0)

    def test_the_highest_mark_wherever_it_stands(self):
        marks = (12, 11, 3, 0, 1, 10, 2, 11)
        ground = tuple((k % 2, mark, 0, tuple(range(8))) for k, mark in enumerate(marks))
        for ring, winner in (((0, 1, 2), 0), ((2, 0, 1), 0), ((1, 2, 0), 0), ((5, 1, 6), 1), ((1, 6, 5), 1),
                             ((6, 5, 1), 1), ((2, 4, 6), 1), ((3, 4), 1), ((4, 3), 1), ((6, 4, 3), 0), ((1, 7), 1)):
            self.told(ground, ring, winner)

    def test_gains_and_owners_do_not_count(self):
        for owner in (0, 1):
            for gain in (-20, 0, 20):
                self.told(((owner, 5, gain, (1,)), (owner, 4, -gain, (0,))), (0, 1), 1)

    def test_a_ring_of_all_of_24_places(self):
        for start in range(24):
            ring = tuple((start + k) % 24 for k in range(24))
            self.told(circle(24), ring, 0)
            self.told(tuple((0, k % 12, 0, place[3]) for k, place in enumerate(circle(24))), ring, 1)

    def test_a_ring_that_comes_through_a_place_twice(self):
        # Each place leads to the next, and no more is asked of a ring.
        self.told(SIX, (0, 1, 2, 1), 0)
        self.told(SIX, (2, 2, 1), 1)
        self.told(SIX, (3, 3), 0)

    def test_all_rings_of_drawn_grounds(self):
        seen = [0, 0]
        for ground in drawn_grounds(85, 80, 6, 3) + drawn_grounds(86, 80, 9, 2):
            for ring in rings_of(ground):
                winner = max(ground[number][1] for number in ring) % 2
                for turn in range(len(ring)):
                    self.told(ground, ring[turn:] + ring[:turn], winner)
                seen[winner] += 1
        self.assertGreater(min(seen), 100)


class JudgedRefused(unittest.TestCase):
    def refused(self, ground, ring):
        before = repr((ground, ring))
        with self.assertRaises(NoPart, msg=before) as caught:
            judged(ground, ring)
        self.assertIs(type(caught.exception), NoPart)
        self.assertEqual(repr((ground, ring)), before)

    def test_no_places(self):
        for ground in GROUNDS:
            self.refused(ground, ())

    def test_what_are_no_places_of_the_ground(self):
        for ring in ((6,), (-1,), (0, 1, 6), (-6, 1), (3, -3), (10 ** 30,)):
            self.refused(SIX, ring)
        for ground in GROUNDS:
            self.refused(ground, (len(ground),))
            self.refused(ground, (-1,))

    def test_what_is_no_tuple_of_numbers(self):
        others = [0, 1, 3, [3], [0, 1], "3", (3, None), ((0, 1),), ((0,), (1,)), (0, True), (True, 2)]
        for thing in strangers() + others:
            self.refused(SIX, thing)
        for ring in spoiled((0, 1)):
            if ring != (0, 1) or type(ring) is list or bool in [type(number) for number in ring]:
                self.refused(SIX, ring)
        # To Python, True is 1 and False 0.
        self.refused(full(2), (False,))
        self.refused(full(2), (True,))
        self.refused(full(2), (0, True))
        self.refused(full(2), (False, 1))

    def test_a_place_that_does_not_lead_to_the_next(self):
        self.refused(SIX, (0, 2, 1))
        self.refused(SIX, (1, 0, 2))
        self.refused(SIX, (2, 1, 0, 1, 0, 2))
        self.refused(SIX, (0, 0, 1))

    def test_the_last_place_does_not_lead_to_the_first(self):
        self.refused(SIX, (0, 1, 2))
        self.refused(SIX, (4, 0, 1))
        self.refused(SIX, (0, 3))
        self.refused(SIX, (0,))
        self.refused(SIX, (4,))
        self.refused(circle(24), tuple(range(23)))

    def test_a_ring_turned_about(self):
        self.refused(circle(24), tuple(reversed(range(24))))
        self.refused(SIX, (1, 2, 3, 0))

    def test_all_rows_of_places_of_small_grounds(self):
        for ground in drawn_grounds(87, 40, 4, 2) + [ONE, TWO, FOUR]:
            for length in (1, 2, 3, 4):
                for row in itertools.product(range(len(ground)), repeat=length):
                    if all(row[k] in ground[row[k - 1]][3] for k in range(length)):
                        self.assertEqual(judged(ground, row), max(ground[number][1] for number in row) % 2)
                    else:
                        self.refused(ground, row)

    def test_taken_by_each_name(self):
        for kind in (NoPart, GroundError, ValueError):
            with self.assertRaises(kind):
                judged(ONE, ())


class OfWon(unittest.TestCase):
    def played(self, chance, ground):
        winners, moves = won(ground)
        told = [drawn_beside(chance, ground, winners, moves, who) for who in (0, 1)]
        for start, winner in enumerate(winners):
            for _ in range(3):
                both = [drawn_moves(chance, ground), drawn_moves(chance, ground)]
                both[winner] = told[winner]
                way, ring = ring_of(ground, both[0], both[1], start)
                self.assertEqual({winners[number] for number in way + ring}, {winner}, ground)
                self.assertEqual(judged(ground, ring), winner, ground)

    def test_the_winner_never_leaves_its_places_and_wins_the_ring(self):
        chance = random.Random(88)
        for most_goals in (2, 3, 24):
            for ground in drawn_grounds(89 + most_goals, 60, 24, most_goals):
                self.played(chance, ground)
        for ground in GROUNDS + HARD + (SIX,):
            self.played(chance, ground)

    def test_both_by_the_told_moves(self):
        chance = random.Random(92)
        for ground in drawn_grounds(93, 100, 24, 4) + list(HARD):
            winners, moves = won(ground)
            told = [drawn_beside(chance, ground, winners, moves, who) for who in (0, 1)]
            for start, winner in enumerate(winners):
                self.assertEqual(judged(ground, ring_of(ground, told[0], told[1], start)[1]), winner)


class AskedTwice(unittest.TestCase):
    def test_twice_the_same_and_nothing_changed(self):
        chance = random.Random(94)
        handed = []
        for ground in drawn_grounds(95, 60, 24, 4):
            zero, one = drawn_moves(chance, ground), drawn_moves(chance, ground)
            handed += [(ground, zero, one, start) for start in range(len(ground))]
        told_twice(self, ring_of, handed)
        told_twice(self, judged, [(row[0], ring_of(*row)[1]) for row in handed])


if __name__ == "__main__":
    unittest.main()
