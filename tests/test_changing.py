"""Points 0.2 (f), 7.1 and 7.2: grounds that are changed, and who wins on them."""

import random
import unittest

from duelground.changing import beside, exchanged, part_of, pressed
from duelground.errors import GroundError, NoMark, NoPart, NoRoom
from duelground.marks import won
from duelground.things import is_ground
from tests.plays import all_some, drawn, drawn_grounds, drawn_most, drawn_whole_part, part_kept, part_of_winner
from tests.samples import (
    FOUR, GROUNDS, HARD, ONE, SIX, TWO, circle, full, only_plain, refused_with, replaced, spoiled, strangers,
)


def marked(marks):
    """A ground of which the places differ in all but the marks."""
    count = len(marks)
    return tuple((k % 2, mark, k - 12, tuple(sorted({k, (k + 1) % count}))) for k, mark in enumerate(marks))


class Exchanged(unittest.TestCase):
    def test_by_hand(self):
        self.assertEqual(exchanged(ONE), ((1, 1, 0, (0,)),))
        self.assertEqual(exchanged(FOUR), (
            (1, 3, 7, (1, 3)),
            (0, 12, 0, (0, 1, 2, 3)),
            (0, 1, -10, (2,)),
            (1, 6, 12, (0, 2)),
        ))

    def test_each_mark_and_gain(self):
        for mark in range(12):
            for gain in range(-20, 21):
                for who in (0, 1):
                    answer = exchanged(((who, mark, gain, (0,)),))
                    self.assertEqual(answer, ((1 - who, mark + 1, -gain, (0,)),))
                    only_plain(self, answer)

    def test_no_mark_where_a_mark_is_12_and_only_there(self):
        for count in (1, 2, 24):
            for number in range(count):
                ground = marked((11,) * count)
                self.assertTrue(is_ground(exchanged(ground)))
                refused_with(self, NoMark, exchanged, replaced(ground, number, (0, 12, 0, (number,))))
        refused_with(self, NoMark, exchanged, TWO)
        refused_with(self, NoMark, exchanged, full(24))

    def test_taken_by_each_name(self):
        for kind in (NoMark, GroundError, ValueError):
            with self.assertRaises(kind):
                exchanged(((0, 12, 0, (0,)),))

    def test_drawn_grounds(self):
        for ground in drawn_grounds(121, 60, 24, 4, 11):
            answer = exchanged(ground)
            self.assertTrue(is_ground(answer))
            for place, other in zip(ground, answer, strict=True):
                self.assertEqual((1 - place[0], place[1] + 1, -place[2], place[3]), other)

    def test_won_tells_the_other_winner_everywhere(self):
        grounds = drawn_grounds(122, 150, 24, 3, 11) + drawn_grounds(123, 60, 24, 24, 5) + [SIX, FOUR, circle(11)]
        for ground in grounds:
            self.assertEqual(won(exchanged(ground))[0], tuple(1 - winner for winner in won(ground)[0]), ground)


class Pressed(unittest.TestCase):
    def told(self, marks, expected):
        answer = pressed(marked(marks))
        only_plain(self, answer)
        self.assertEqual(answer, marked(expected))

    def test_the_least_mark(self):
        for mark in range(13):
            self.told((mark,), (mark % 2,))
            self.told((mark, mark, mark), (mark % 2,) * 3)

    def test_the_next_greater_mark(self):
        # Odd behind even and even behind odd follow at once, else one number is left out between.
        for marks, expected in (
            ((0, 1), (0, 1)), ((0, 2), (0, 2)), ((0, 11), (0, 1)), ((0, 12), (0, 2)), ((1, 2), (1, 2)),
            ((1, 3), (1, 3)), ((1, 11), (1, 3)), ((1, 12), (1, 2)), ((11, 12), (1, 2)), ((10, 12), (0, 2)),
            ((9, 11), (1, 3)), ((6, 9), (0, 1)), ((7, 10), (1, 2)),
        ):
            self.told(marks, expected)
            self.told(marks[::-1], expected[::-1])

    def test_several_marks(self):
        self.told((4, 7, 7, 9, 12, 4), (0, 1, 1, 3, 4, 0))
        self.told((12, 3, 5, 11, 4, 10), (6, 1, 3, 5, 2, 4))
        self.told((12, 10, 8, 6, 4, 2), (10, 8, 6, 4, 2, 0))
        self.told((11, 9, 7, 3), (7, 5, 3, 1))

    def test_marks_that_stay(self):
        for marks in (tuple(range(13)), tuple(range(12, -1, -1)), tuple(range(1, 13)), (0, 2, 4, 6, 8, 10, 12),
                      (1, 3, 5, 7, 9, 11), (0, 1, 3, 4, 6, 7)):
            self.told(marks, marks)

    def test_the_least_that_keep_their_order_and_whether_they_are_even(self):
        for ground in drawn_grounds(124, 60, 24, 3) + drawn_grounds(125, 60, 3, 3) + list(GROUNDS):
            answer = pressed(ground)
            self.assertTrue(is_ground(answer))
            self.assertEqual([place[:1] + place[2:] for place in answer], [place[:1] + place[2:] for place in ground])
            pairs = sorted({(place[1], other[1]) for place, other in zip(ground, answer, strict=True)})
            self.assertEqual(len(pairs), len({place[1] for place in ground}))
            least = 0
            for mark, other in pairs:
                # Beneath it no number is left that is greater than those before and as even as the mark.
                self.assertEqual(other, [number for number in range(least, 13) if number % 2 == mark % 2][0])
                least = other + 1
            self.assertEqual(pressed(answer), answer)

    def test_won_tells_the_same(self):
        grounds = drawn_grounds(126, 150, 24, 3) + drawn_grounds(127, 100, 8, 3) + list(GROUNDS + HARD + (SIX,))
        changed = 0
        for ground in grounds:
            self.assertEqual(won(pressed(ground))[0], won(ground)[0], ground)
            changed += pressed(ground) != ground
        self.assertGreater(changed, 100)


class Beside(unittest.TestCase):
    def test_by_hand(self):
        self.assertEqual(beside(ONE, TWO), ((0, 0, 0, (0,)), (1, 12, -20, (1, 2)), (0, 3, 20, (1,))))
        self.assertEqual(beside(TWO, ONE), TWO + ((0, 0, 0, (2,)),))
        self.assertEqual(beside(TWO, TWO), TWO + ((1, 12, -20, (2, 3)), (0, 3, 20, (2,))))
        self.assertEqual(beside(FOUR, TWO)[4:], ((1, 12, -20, (4, 5)), (0, 3, 20, (4,))))

    def test_goals_move_by_how_many_one_has(self):
        for ground in drawn_grounds(128, 40, 12, 4):
            for other in drawn_grounds(129, 10, 12, 4):
                answer = beside(ground, other)
                only_plain(self, answer)
                self.assertTrue(is_ground(answer))
                self.assertEqual(answer[:len(ground)], ground)
                for place, moved in zip(other, answer[len(ground):], strict=True):
                    self.assertEqual(moved, place[:3] + (tuple(goal + len(ground) for goal in place[3]),))

    def test_no_room_where_places_are_more_than_24(self):
        for count in range(1, 25):
            if count < 24:
                self.assertEqual(len(beside(circle(count), full(24 - count))), 24)
                self.assertTrue(is_ground(beside(circle(count), full(24 - count))))
            refused_with(self, NoRoom, beside, circle(count), full(25 - count))
            refused_with(self, NoRoom, beside, circle(count), circle(24))
            refused_with(self, NoRoom, beside, full(24), circle(count))

    def test_taken_by_each_name(self):
        for kind in (NoRoom, GroundError, ValueError):
            with self.assertRaises(kind):
                beside(circle(24), ONE)

    def test_won_tells_those_of_one_then_those_of_other(self):
        chance = random.Random(130)
        for _ in range(150):
            count = chance.randint(1, 23)
            one = drawn(chance, count, 3)
            other = drawn(chance, chance.randint(1, 24 - count), 3)
            self.assertEqual(won(beside(one, other))[0], won(one)[0] + won(other)[0], (one, other))


class PartOf(unittest.TestCase):
    def test_by_hand(self):
        self.assertEqual(part_of(FOUR, (0, 1, 3)), ((0, 2, -7, (1, 2)), (1, 11, 0, (0, 1, 2)), (0, 5, -12, (0,))))
        self.assertEqual(part_of(FOUR, (0, 3)), ((0, 2, -7, (1,)), (0, 5, -12, (0,))))
        self.assertEqual(part_of(FOUR, (1,)), ((1, 11, 0, (0,)),))
        self.assertEqual(part_of(FOUR, (2, 3)), ((1, 0, 10, (0,)), (0, 5, -12, (0,))))
        self.assertEqual(part_of(SIX, (2, 3)), ((0, 1, 0, (0, 1)), (0, 2, 0, (0,))))
        self.assertEqual(part_of(SIX, (4, 5)), ((1, 5, 0, (1,)), (0, 0, 0, (0,))))

    def test_one_place_of_24(self):
        for number in range(24):
            who, mark, gain, _ = full(24)[number]
            self.assertEqual(part_of(full(24), (number,)), ((who, mark, gain, (0,)),))

    def test_all_places(self):
        for ground in GROUNDS + (SIX,):
            self.assertEqual(part_of(ground, tuple(range(len(ground)))), ground)

    def test_drawn_parts(self):
        chance = random.Random(131)
        for ground in drawn_grounds(132, 150, 24, 4):
            inside = drawn_whole_part(chance, ground)
            if inside:
                answer = part_of(ground, inside)
                only_plain(self, answer)
                self.assertTrue(is_ground(answer))
                for number, place in zip(inside, answer, strict=True):
                    self.assertEqual(place[:3], ground[number][:3])
                    self.assertEqual([inside[goal] for goal in place[3]],
                                     [goal for goal in ground[number][3] if goal in inside])

    def test_a_part_of_a_part(self):
        chance = random.Random(133)
        for ground in drawn_grounds(134, 100, 24, 4):
            inside = drawn_whole_part(chance, ground)
            if inside:
                within = drawn_whole_part(chance, part_of(ground, inside))
                if within:
                    self.assertEqual(part_of(part_of(ground, inside), within),
                                     part_of(ground, tuple(inside[number] for number in within)))

    def test_one_beside_the_other_taken_apart(self):
        for ground in drawn_grounds(135, 40, 12, 4):
            for other in drawn_grounds(136, 5, 12, 4):
                both = beside(ground, other)
                self.assertEqual(part_of(both, tuple(range(len(ground)))), ground)
                self.assertEqual(part_of(both, tuple(range(len(ground), len(both)))), other)

    def test_an_empty_part(self):
        for ground in GROUNDS:
            refused_with(self, NoPart, part_of, ground, ())

    def test_a_part_that_is_not_whole(self):
        for inside in ((0,), (1,), (3,), (4,), (5,), (0, 2), (1, 3), (2, 4), (0, 1, 5), (2, 3, 5), (0, 2, 3, 4, 5)):
            refused_with(self, NoPart, part_of, SIX, inside)
        for inside in ((2,), (0, 1), (1, 2), (2, 3), (4, 5), (0, 1, 4), (1, 2, 4, 5), (0, 1, 2, 4)):
            self.assertEqual(len(part_of(SIX, inside)), len(inside))
        for number in range(24):
            refused_with(self, NoPart, part_of, circle(24), (number,))
            refused_with(self, NoPart, part_of, circle(24), tuple(k for k in range(24) if k != number))

    def test_each_part_of_small_grounds(self):
        seen = {True: 0, False: 0}
        for ground in drawn_grounds(137, 40, 5, 3):
            for inside in all_some(range(len(ground))):
                is_whole = all(set(ground[number][3]) & set(inside) for number in inside) and inside != ()
                seen[is_whole] += 1
                if is_whole:
                    self.assertEqual(len(part_of(ground, inside)), len(inside))
                else:
                    refused_with(self, NoPart, part_of, ground, inside)
        self.assertGreater(min(seen.values()), 100)

    def test_not_some_places(self):
        for ground in GROUNDS:
            refused_with(self, NoPart, part_of, ground, (len(ground),))
            refused_with(self, NoPart, part_of, ground, tuple(range(len(ground) + 1)))
            refused_with(self, NoPart, part_of, ground, list(range(len(ground))))
            refused_with(self, NoPart, part_of, ground, (-1,))
        for thing in strangers() + list(spoiled((0, 1, 3))) + [0, 1, (1, 0), (0, 0), (3, 1, 0), (1, 1, 3)]:
            refused_with(self, NoPart, part_of, FOUR, thing)

    def test_taken_by_each_name(self):
        for kind in (NoPart, GroundError, ValueError):
            with self.assertRaises(kind):
                part_of(ONE, ())

    def test_what_a_player_wins_in_a_part_that_it_can_keep_to_it_wins_in_the_ground(self):
        chance = random.Random(138)
        seen = {True: 0, False: 0}
        for ground in drawn_grounds(139, 200, 24, 3) + drawn_grounds(140, 100, 8, 2) + list(HARD):
            for who in (0, 1):
                winners = won(ground)[0]
                part = part_kept(ground, who, drawn_most(chance, range(len(ground))))
                inner = won(part_of(ground, part))[0] if part else ()
                for number, winner in zip(part, inner, strict=True):
                    seen[winner == who] += len(part) < len(ground)
                    if winner == who:
                        self.assertEqual(winners[number], who, (ground, part))
        self.assertGreater(min(seen.values()), 100)

    def test_of_all_the_places_that_a_player_wins_it_wins_all_by_themselves(self):
        grounds = drawn_grounds(141, 200, 24, 3) + drawn_grounds(142, 60, 24, 24) + list(GROUNDS + HARD + (SIX,))
        for ground in grounds:
            for who in (0, 1):
                part = part_of_winner(won(ground)[0], who)
                if part:
                    self.assertEqual(won(part_of(ground, part))[0], (who,) * len(part), ground)


if __name__ == "__main__":
    unittest.main()
