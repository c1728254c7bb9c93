"""Points 0.2 (f) and 8.1: like places, and the ground in which they are folded together."""

import random
import unittest

from duelground.again import again
from duelground.changing import beside
from duelground.likeness import folded, likeness
from duelground.marks import won
from duelground.measures import by_measures
from duelground.things import is_ground
from tests.plays import drawn, drawn_grounds
from tests.samples import FOUR, GROUNDS, HARD, ONE, SIX, TWO, circle, full, only_plain

# The places with a 2 lead to such with a 3 alone, and these to such with a 2, so all of each mark are like.
RINGS = (
    (0, 2, 5, (1,)),
    (1, 3, 6, (0, 2)),
    (0, 2, 7, (3,)),
    (1, 3, 8, (2,)),
    (0, 2, 9, (1, 5)),
    (1, 3, 0, (4,)),
)


def have_like_goals(pairs, ground, one, other):
    """Whether each goal of one is like some goal of the other."""
    return all(any((goal, its) in pairs for its in ground[other][3]) for goal in ground[one][3])


def greatest_relation(ground):
    """The words of the point: of all pairs those go that must, until none has to."""
    everywhere = range(len(ground))
    pairs = {(one, other) for one in everywhere for other in everywhere if ground[one][:2] == ground[other][:2]}
    while True:
        left = {
            (one, other) for one, other in pairs
            if have_like_goals(pairs, ground, one, other) and have_like_goals(pairs, ground, other, one)
        }
        if left == pairs:
            return pairs
        pairs = left


def greatest_by_trying(ground):
    """All relations that are enough, put together: the greatest one by itself."""
    everywhere = range(len(ground))
    could = [(one, other) for one in everywhere for other in range(one) if ground[one][:2] == ground[other][:2]]
    same = {(number, number) for number in everywhere}
    found = set(same)
    for choice in range(2 ** len(could)):
        chosen = {pair for k, pair in enumerate(could) if choice >> k & 1}
        pairs = same | chosen | {(other, one) for one, other in chosen}
        if all(have_like_goals(pairs, ground, *pair) for pair in pairs):
            found |= pairs
    return found


def doubled(chance, ground):
    """Each place stands once or twice, and leads to one or both of those that stand for its goals."""
    stands = [number for number in range(len(ground)) for _ in range(chance.randint(1, 2))]
    chance.shuffle(stands)
    places = []
    for number in stands:
        goals = set()
        for goal in ground[number][3]:
            copies = [k for k, other in enumerate(stands) if other == goal]
            goals.update(chance.sample(copies, chance.randint(1, len(copies))))
        places.append(ground[number][:2] + (chance.randint(-20, 20), tuple(sorted(goals))))
    return tuple(places)


def doubled_grounds(seed, how_many, most_goals, most_mark):
    chance = random.Random(seed)
    return [doubled(chance, drawn(chance, chance.randint(1, 12), most_goals, most_mark)) for _ in range(how_many)]


class Likeness(unittest.TestCase):
    def told(self, ground, like):
        answer = likeness(ground)
        only_plain(self, answer)
        self.assertEqual(answer, like)

    def test_one_place(self):
        self.told(ONE, (0,))

    def test_like_places(self):
        self.told(((0, 1, 0, (0,)), (0, 1, 0, (1,))), (0, 0))
        self.told(((0, 1, 0, (0, 1)), (0, 1, 0, (1,))), (0, 0))
        self.told(((1, 2, 0, (2,)), (1, 2, 0, (3,)), (0, 5, 0, (2,)), (0, 5, 0, (2,))), (0, 0, 2, 2))

    def test_by_owner(self):
        self.told(((0, 1, 0, (0,)), (1, 1, 0, (1,))), (0, 1))

    def test_by_mark(self):
        self.told(((0, 1, 0, (0,)), (0, 3, 0, (1,))), (0, 1))
        self.told(((0, 0, 0, (0,)), (0, 12, 0, (1,)), (0, 0, 0, (2,))), (0, 1, 0))

    def test_gains_do_not_count(self):
        self.told(((0, 1, -20, (0,)), (0, 1, 20, (1,)), (0, 1, 0, (2,))), (0, 0, 0))
        for ground in drawn_grounds(151, 40, 24, 2, 1):
            self.told(tuple((who, mark, 0, goals) for who, mark, _, goals in ground), likeness(ground))

    def test_by_goals_one_step_on(self):
        ends = ((0, 0, 0, (0,)), (0, 1, 0, (1,)))
        self.told(ends + ((0, 2, 0, (0,)), (0, 2, 0, (1,)), (0, 2, 0, (0,))), (0, 1, 2, 3, 2))
        # A goal more on one side is enough, whichever side it is.
        self.told(ends + ((0, 2, 0, (0, 1)), (0, 2, 0, (1,)), (0, 2, 0, (0, 1))), (0, 1, 2, 3, 2))
        self.told(ends + ((0, 2, 0, (1,)), (0, 2, 0, (0, 1)), (0, 2, 0, (1,))), (0, 1, 2, 3, 2))

    def test_how_many_like_goals_does_not_count(self):
        ground = ((0, 0, 0, (0,)), (0, 0, 0, (1,)), (0, 2, 0, (0,)), (0, 2, 0, (0, 1)), (0, 2, 0, (1,)))
        self.told(ground, (0, 0, 2, 2, 2))

    def test_by_goals_several_steps_on(self):
        # Two ways of eleven places each; all that differs is the mark of the place where each ends.
        for last in (0, 1):
            ground = tuple((0, 0, 0, (min(k + 1, 10),)) for k in range(11))
            ground = ground[:10] + ((0, last, 0, (10,)),)
            for other in (0, 1):
                second = ground[:10] + ((0, other, 0, (10,)),)
                answer = likeness(beside(ground, second))
                if last == other:
                    self.assertEqual(answer[11:], answer[:11])
                else:
                    self.assertEqual(len(set(answer)), 12)
                self.assertEqual(len(set(answer[:11])), 11 if last else 1)

    def test_places_on_rings(self):
        self.told(RINGS, (0, 1, 0, 1, 0, 1))
        # A ring of two and one of three are like where all their places have one owner and one mark.
        ground = tuple((1, 7, 0, (goal,)) for goal in (1, 0, 3, 4, 2))
        self.told(ground, (0, 0, 0, 0, 0))
        # A ring of four is like one of two where their marks go the same way round.
        ground = tuple((1, mark, 0, (goal,)) for mark, goal in ((1, 1), (2, 0), (2, 3), (1, 4), (2, 5), (1, 2)))
        self.told(ground, (0, 1, 1, 0, 1, 0))
        # Three places of which one has another mark: the others are told apart by how far on it is.
        ground = tuple((1, mark, 0, (goal,)) for mark, goal in ((1, 1), (1, 2), (2, 0)))
        self.told(ground, (0, 1, 2))

    def test_a_ring_that_may_be_left(self):
        ground = ((0, 0, 0, (0, 2)), (0, 0, 0, (1,)), (0, 0, 0, (2, 3)), (0, 1, 0, (3,)))
        self.told(ground, (0, 1, 2, 3))

    def test_samples(self):
        self.told(TWO, (0, 1))
        self.told(FOUR, (0, 1, 2, 3))
        self.told(SIX, (0, 1, 2, 3, 4, 5))
        self.told(full(24), tuple(range(24)))
        self.told(tuple((0, 5, k - 12, tuple(range(24))) for k in range(24)), (0,) * 24)
        # 13 is odd: what is 13 places apart has one mark, but not one owner.
        self.told(circle(24), tuple(range(24)))

    def test_twice_the_same_ground(self):
        for ground in drawn_grounds(152, 60, 12, 3, 2):
            like = likeness(ground)
            self.told(beside(ground, ground), like + like)

    def test_all_relations_of_small_grounds(self):
        grounds = drawn_grounds(153, 150, 4, 3, 1) + drawn_grounds(154, 40, 5, 2, 0)
        for ground in grounds:
            pairs = greatest_by_trying(ground)
            self.told(ground, tuple(min(other for one, other in pairs if one == k) for k in range(len(ground))))

    def test_the_greatest_relation_and_the_least_place_of_each(self):
        grounds = drawn_grounds(155, 100, 24, 2, 1) + drawn_grounds(156, 60, 12, 3, 2)
        grounds += drawn_grounds(157, 60, 24, 1, 2) + list(GROUNDS)
        seen = 0
        for ground in grounds + doubled_grounds(158, 150, 3, 4):
            pairs = greatest_relation(ground)
            like = likeness(ground)
            for number in range(len(ground)):
                self.assertEqual(like[number], min(other for one, other in pairs if one == number), ground)
                seen += like[number] != number
        self.assertGreater(seen, 500)


class Folded(unittest.TestCase):
    def told(self, ground, expected):
        answer = folded(ground)
        only_plain(self, answer)
        self.assertEqual(answer, expected)

    def test_by_hand(self):
        self.told(ONE, ONE)
        self.told(RINGS, ((0, 2, 5, (1,)), (1, 3, 6, (0,))))
        # Place 2 falls together with 0, so 3 and 4 are numbered anew, and so are the goals.
        ground = ((0, 1, 3, (1, 3)), (1, 2, 4, (2,)), (0, 1, 5, (1, 3)), (0, 4, -6, (2, 4)), (1, 0, -7, (0, 3, 4)))
        self.told(ground, ((0, 1, 3, (1, 2)), (1, 2, 4, (0,)), (0, 4, -6, (0, 3)), (1, 0, -7, (0, 2, 3))))

    def test_goals_rise_and_none_stands_twice(self):
        # 0 leads to 1 and 2, which are like; 3 leads on to what is like a lesser place than itself.
        ground = ((0, 5, 0, (1, 2)), (1, 0, 0, (3,)), (1, 0, 0, (4,)), (0, 5, 0, (2,)), (0, 5, 0, (1,)))
        self.told(ground, ((0, 5, 0, (1,)), (1, 0, 0, (0,))))
        # By the least places that stand for them, the goals of 1 come in another order.
        ground = ((0, 0, 0, (0,)), (0, 1, 0, (2, 3)), (0, 2, 0, (2,)), (0, 0, 0, (3,)))
        self.told(ground, ((0, 0, 0, (0,)), (0, 1, 0, (0, 2)), (0, 2, 0, (2,))))

    def test_the_gain_of_the_least_place(self):
        for gains in ((-20, 20, 0), (1, 2, 3), (20, -20, -20)):
            self.told(tuple((1, 3, gain, (0, 1, 2)) for gain in gains), ((1, 3, gains[0], (0,)),))

    def test_where_no_places_are_like_nothing_changes(self):
        for ground in (ONE, TWO, FOUR, SIX, full(24), circle(24)):
            self.told(ground, ground)

    def judged(self, ground):
        answer = folded(ground)
        only_plain(self, answer)
        self.assertTrue(is_ground(answer))
        like = likeness(ground)
        least = sorted(set(like))
        for number, place in zip(least, answer, strict=True):
            self.assertEqual(place[:3], ground[number][:3])
            self.assertEqual([least[goal] for goal in place[3]], sorted({like[goal] for goal in ground[number][3]}))
        self.assertEqual(folded(answer), answer)
        self.assertEqual(likeness(answer), tuple(range(len(answer))))
        return answer, [least.index(number) for number in like]

    def grounds(self):
        return (drawn_grounds(159, 100, 24, 2, 1) + drawn_grounds(160, 60, 12, 3, 2) + doubled_grounds(161, 150, 3, 4)
                + drawn_grounds(162, 60, 24, 3) + list(GROUNDS + HARD + (RINGS,)))

    def test_drawn_grounds(self):
        fewer = 0
        for ground in self.grounds():
            answer, _ = self.judged(ground)
            fewer += len(answer) < len(ground)
        self.assertGreater(fewer, 150)

    def test_a_place_and_the_one_that_stands_for_it_are_won_by_the_same_one(self):
        for ground in self.grounds():
            answer, stands = self.judged(ground)
            winners = won(answer)[0]
            self.assertEqual(won(ground)[0], tuple(winners[number] for number in stands), ground)
            self.assertEqual(by_measures(ground), tuple(winners[number] for number in stands), ground)

    def test_the_games_of_coming_to_some_marks_again(self):
        chance = random.Random(163)
        for ground in self.grounds():
            answer, stands = self.judged(ground)
            marks = [mark for mark in range(13) if chance.randint(0, 1)]
            for who in (0, 1):
                winners = again(answer, who, tuple(k for k, place in enumerate(answer) if place[1] in marks))[0]
                goals = tuple(k for k, place in enumerate(ground) if place[1] in marks)
                self.assertEqual(again(ground, who, goals)[0], tuple(winners[number] for number in stands), ground)

    def test_a_doubled_ground_is_folded_to_no_more_places(self):
        chance = random.Random(164)
        for ground in drawn_grounds(165, 100, 12, 3, 4):
            self.assertEqual(len(folded(doubled(chance, ground))), len(folded(ground)))


if __name__ == "__main__":
    unittest.main()
