"""Points 0.2 (d) and 4.2: who wins by marks, found by measures that rise."""

import inspect
import itertools
import random
import time
import unittest

from duelground.marks import won
from duelground.measures import beyond_all, by_measures, most_counts, risen
from tests.plays import drawn, drawn_grounds, exchanged_by_hand
from tests.samples import GROUNDS, HARD, HARD_TO_MEASURE, SIX, circle, full, only_plain, told_twice

BEYOND = "beyond all"


def rows_of(ground):
    """The measures, beyond all by this name."""
    return tuple(BEYOND if row == beyond_all(ground) else row for row in risen(ground))


def odd_marks(ground):
    return [mark for mark in range(max(place[1] for place in ground), 0, -1) if mark % 2]


def all_measures(ground):
    counts = [range(1 + sum(place[1] == mark for place in ground)) for mark in odd_marks(ground)]
    return list(itertools.product(*counts)) + [BEYOND]


def is_in_bounds(ground, row):
    most = [sum(place[1] == mark for place in ground) for mark in odd_marks(ground)]
    return len(row) == len(most) and all(0 <= count <= limit for count, limit in zip(row, most))


def is_enough(ground, place, row, goal_row):
    """Whether the row of a place is no less than it must be by this one goal, as far as the mark asks."""
    if row == BEYOND or goal_row == BEYOND:
        return row == BEYOND
    asked = [where for where, mark in enumerate(odd_marks(ground)) if mark >= place[1]]
    mine, its = [row[where] for where in asked], [goal_row[where] for where in asked]
    return mine > its if place[1] % 2 else mine >= its


def are_enough(ground, measures):
    for place, row in zip(ground, measures):
        by_goals = [is_enough(ground, place, row, measures[goal]) for goal in place[3]]
        if not (any(by_goals) if place[0] == 0 else all(by_goals)):
            return False
    return True


def least_by_trying(ground):
    """Of all measures that are enough the least at each place."""
    rows = all_measures(ground)
    enough = [each for each in itertools.product(rows, repeat=len(ground)) if are_enough(ground, each)]
    return tuple(min((each[number] for each in enough), key=rows.index) for number in range(len(ground)))


class Rows(unittest.TestCase):
    def told(self, ground, rows):
        self.assertEqual(rows_of(ground), rows)
        self.assertEqual(by_measures(ground), tuple(int(row == BEYOND) for row in rows))

    def test_one_count_for_each_odd_mark_the_highest_first(self):
        for highest, counts in ((0, ()), (1, (1,)), (2, (0,)), (3, (1, 0)), (6, (0, 0, 0)), (11, (1, 0, 0, 0, 0, 0))):
            self.assertEqual(most_counts(((0, highest, 0, (0,)),)), counts)
        ground = tuple((0, mark, 0, (0,)) for mark in (5, 1, 4, 1, 7, 8, 1, 5))
        self.assertEqual(most_counts(ground), (1, 2, 0, 3))

    def test_a_place_with_an_odd_mark_is_greater(self):
        self.told(((0, 1, 0, (1,)), (0, 2, 0, (0,))), ((1,), (0,)))
        self.told(((0, 3, 0, (1,)), (0, 1, 0, (2,)), (0, 4, 0, (0,))), ((1, 0), (0, 1), (0, 0)))

    def test_a_place_with_an_even_mark_is_no_less(self):
        self.told(((0, 0, 0, (1,)), (0, 1, 0, (2,)), (0, 2, 0, (2,))), ((1,), (1,), (0,)))

    def test_of_the_counts_of_lower_marks_nothing_is_asked(self):
        self.told(((0, 2, 0, (1,)), (0, 1, 0, (2,)), (0, 4, 0, (2,))), ((0, 0), (0, 1), (0, 0)))
        # The 3 has nothing to ask of the 1 that it leads to, but it is greater by its own count.
        self.told(((0, 3, 0, (1,)), (1, 1, 0, (2,)), (1, 6, 0, (2,))), ((0, 1, 0), (0, 0, 1), (0, 0, 0)))
        # The 2 keeps the count of the 3.
        self.told(((0, 2, 0, (1,)), (0, 3, 0, (2,)), (0, 4, 0, (2,))), ((1, 0), (1, 0), (0, 0)))

    def test_a_count_is_at_most_as_many_as_there_are_such_places(self):
        ground = ((0, 1, 0, (1,)), (1, 1, 0, (2,)), (0, 1, 0, (3,)), (0, 2, 0, (3,)))
        self.told(ground, ((3,), (2,), (1,), (0,)))
        # A third 1 beside the ring of two does not stop the ring's counts from rising.
        ground = ((0, 1, 0, (1,)), (1, 1, 0, (0,)), (0, 1, 0, (3,)), (0, 2, 0, (3,)))
        self.told(ground, (BEYOND, BEYOND, (1,), (0,)))

    def test_a_full_count_goes_over_to_the_next_higher_mark(self):
        # 0 goes round at itself until that costs more than going on to the 3.
        ground = ((0, 1, 0, (0, 1)), (0, 3, 0, (2,)), (0, 4, 0, (2,)))
        self.told(ground, ((1, 1), (1, 0), (0, 0)))
        # There is no 3, so a full count of the 1 goes over to that of the 5.
        ground = ((0, 1, 0, (0, 1)), (0, 5, 0, (2,)), (0, 6, 0, (2,)))
        self.told(ground, ((1, 0, 1), (1, 0, 0), (0, 0, 0)))

    def test_beyond_all(self):
        self.told(((0, 1, 0, (0,)),), (BEYOND,))
        self.told(((1, 11, 0, (0,)),), (BEYOND,))
        # There is no higher odd mark with a place, so nothing is left behind the full count of the 1.
        self.told(((0, 1, 0, (0,)), (0, 12, 0, (1,))), (BEYOND, (0, 0, 0, 0, 0, 0)))
        # What is beyond all is so by a high even mark, too.
        self.told(((0, 12, 0, (1,)), (1, 11, 0, (1,))), (BEYOND, BEYOND))

    def test_0_chooses_the_least_and_1_the_greatest(self):
        for who, row in ((0, (0,)), (1, (1,))):
            ground = ((who, 0, 0, (1, 2)), (0, 1, 0, (3,)), (0, 2, 0, (2,)), (0, 2, 0, (3,)))
            self.told(ground, (row, (1,), (0,), (0,)))
        for who, row in ((0, (0, 1)), (1, BEYOND)):
            ground = ((who, 1, 0, (1, 2)), (0, 3, 0, (1,)), (0, 4, 0, (2,)))
            self.told(ground, (row, BEYOND, (0, 0)))

    def test_no_odd_mark(self):
        self.told(((0, 0, 0, (1,)), (1, 0, 0, (0,))), ((), ()))
        self.told(((0, 2, 0, (0, 1)), (1, 4, 0, (0,))), ((0, 0), (0, 0)))

    def test_the_least_rows_that_are_enough(self):
        grounds = drawn_grounds(51, 150, 3, 3, 4) + drawn_grounds(52, 50, 3, 2, 6) + drawn_grounds(53, 50, 4, 3, 2)
        for ground in grounds:
            self.assertEqual(rows_of(ground), least_by_trying(ground), ground)

    def test_rows_of_greater_grounds_are_enough(self):
        for ground in drawn_grounds(54, 100, 24, 3) + list(GROUNDS):
            rows = rows_of(ground)
            self.assertTrue(are_enough(ground, rows), ground)
            self.assertTrue(all(row == BEYOND or is_in_bounds(ground, row) for row in rows), ground)


class Winners(unittest.TestCase):
    def same_as_won(self, ground):
        winners = by_measures(ground)
        only_plain(self, winners)
        self.assertEqual(winners, won(ground)[0], ground)
        return winners

    def test_names_and_arguments(self):
        self.assertEqual(list(inspect.signature(by_measures).parameters), ["ground"])

    def test_by_hand(self):
        self.assertEqual(by_measures(SIX), (0, 0, 0, 0, 1, 1))
        self.assertEqual(by_measures(exchanged_by_hand(SIX)), (1, 1, 1, 1, 0, 0))

    def test_one_place(self):
        for owner in (0, 1):
            for mark in range(13):
                self.assertEqual(self.same_as_won(((owner, mark, 0, (0,)),)), (mark % 2,))

    def test_all_marks_the_same(self):
        for mark in range(13):
            for count in (1, 2, 24):
                for goals in (tuple(range(count)), (count - 1,), (0,)):
                    ground = tuple((k % 2, mark, 0, goals) for k in range(count))
                    self.assertEqual(self.same_as_won(ground), (mark % 2,) * count)

    def test_all_marks_the_same_on_drawn_grounds(self):
        for ground in drawn_grounds(55, 30, 24, 3):
            for mark in (0, 1, 7, 11, 12):
                ground = tuple((who, mark, gain, goals) for who, _, gain, goals in ground)
                self.assertEqual(self.same_as_won(ground), (mark % 2,) * len(ground))

    def test_samples(self):
        for ground in GROUNDS + (exchanged_by_hand(circle(11)),):
            self.same_as_won(ground)
        self.assertEqual(by_measures(circle(24)), (0,) * 24)
        self.assertEqual(by_measures(full(24)), tuple(k % 2 for k in range(24)))

    def test_each_number_of_places(self):
        chance = random.Random(56)
        for count in range(1, 25):
            for most_goals in (1, 2, 3, 24):
                for most_mark in (0, 1, 2, 5, 11, 12):
                    for _ in range(2):
                        self.same_as_won(drawn(chance, count, most_goals, most_mark))

    def test_drawn_grounds(self):
        for most_goals in (2, 3, 5, 24):
            for most_mark in (3, 6, 12):
                for ground in drawn_grounds(57 + most_goals * 100 + most_mark, 40, 24, most_goals, most_mark):
                    self.same_as_won(ground)

    def test_gains_do_not_count(self):
        for ground in drawn_grounds(58, 30, 24, 3):
            self.assertEqual(by_measures(tuple((who, mark, 0, goals) for who, mark, _, goals in ground)),
                             by_measures(ground))


class Hard(unittest.TestCase):
    def test_each_ends_in_time(self):
        for ground in HARD + HARD_TO_MEASURE:
            self.assertEqual(len(ground), 24)
            start = time.process_time()
            winners = by_measures(ground)
            self.assertLess(time.process_time() - start, 60)
            self.assertEqual(winners, won(ground)[0])


class AskedTwice(unittest.TestCase):
    def test_twice_the_same_and_nothing_changed(self):
        told_twice(self, by_measures, [(ground,) for ground in drawn_grounds(59, 60, 24, 4)])


if __name__ == "__main__":
    unittest.main()
