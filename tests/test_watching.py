"""Points 0.2 (e), 9.1 and 9.2: watchers, and the game in which good states are to come again and again."""

import random
import time
import unittest

from duelground.again import again
from duelground.errors import GroundError, NoWatcher
from duelground.watching import is_watcher, states_of, watched, watcher_of
from tests.plays import drawn, drawn_grounds, ring_beside_goals, ring_through_goals, stays
from tests.samples import (
    FOUR, GROUNDS, HARD, ONE, SIX, TWO, circle, full, only_plain, refused_with, replaced, spoiled, strangers,
    told_twice,
)

NEVER = ((0, (0,) * 13),)
ALWAYS = ((1, (0,) * 13),)
# State 1 stands behind each odd mark, and is good.
ODD = ((0, (0, 1) * 6 + (0,)), (1, (0, 1) * 6 + (0,)))
# By a 12 it goes on to the next state, by 0 back to the first one, by others it stays; the last one stays for ever.
SIX_STATES = tuple((k % 2, (0,) + (k,) * 11 + (k + 1,)) for k in range(5)) + ((0, (5,) * 13),)

# 0 chooses between a 1 and a 2, and comes back by a 0.
FORK = ((0, 0, 0, (1, 2)), (1, 1, 0, (0,)), (1, 2, 0, (0,)))


def drawn_watcher(chance, count):
    return tuple((chance.randint(0, 1), tuple(chance.randrange(count) for _ in range(13))) for _ in range(count))


def drawn_group(chance):
    return tuple(mark for mark in range(13) if chance.randint(0, 2) == 0)


def drawn_groups(chance, count):
    return tuple(drawn_group(chance) for _ in range(count))


def drawn_watchers(seed):
    """One with each number of states, and one of each number of groups."""
    chance = random.Random(seed)
    watchers = [drawn_watcher(chance, count) for count in range(1, 7)]
    return watchers + [watcher_of(drawn_groups(chance, count)) for count in range(1, 6)]


def with_the_owners_exchanged(ground):
    return tuple((1 - who, mark, gain, goals) for who, mark, gain, goals in ground)


class IsWatcher(unittest.TestCase):
    def test_watchers(self):
        for thing in (NEVER, ALWAYS, ODD, SIX_STATES):
            self.assertIs(is_watcher(thing), True)
        chance = random.Random(171)
        for count in range(1, 7):
            for _ in range(20):
                self.assertIs(is_watcher(drawn_watcher(chance, count)), True)

    def test_how_many_states(self):
        state = (0, (0,) * 13)
        for count in range(10):
            self.assertIs(is_watcher((state,) * count), 1 <= count <= 6)

    def test_how_many_steps(self):
        for count in range(16):
            self.assertIs(is_watcher(((0, (0,) * count),)), count == 13)
            self.assertIs(is_watcher((ODD[0], (1, (1,) * count))), count == 13)

    def test_steps_that_are_no_states(self):
        for watcher in (NEVER, ODD, SIX_STATES):
            for state, (good, steps) in enumerate(watcher):
                for mark in range(13):
                    for step in range(-2, 9):
                        thing = replaced(watcher, state, (good, replaced(steps, mark, step)))
                        self.assertIs(is_watcher(thing), 0 <= step < len(watcher))

    def test_good_that_is_neither_0_nor_1(self):
        for watcher in (NEVER, ODD, SIX_STATES):
            for state in range(len(watcher)):
                for good in (-1, 0, 1, 2, 12):
                    self.assertIs(is_watcher(replaced(watcher, state, (good, watcher[state][1]))), good in (0, 1))

    def test_states_with_other_parts(self):
        steps = (0,) * 13
        for state in ((), (0,), (steps,), (0, steps, 0), (0, 0, steps), (steps, 0), (0,) + steps, (0, 0), 0, steps):
            self.assertIs(is_watcher((state,)), False)
            self.assertIs(is_watcher((state, (0, steps))), False)
            self.assertIs(is_watcher(((0, steps), state)), False)

    def test_truths_and_lists(self):
        steps = (0,) * 13
        for state in ((True, steps), (False, steps), (0, steps[1:] + (False,)), (0, list(steps)), [0, steps]):
            self.assertIs(is_watcher((state,)), False)
        self.assertIs(is_watcher([(0, steps)]), False)
        self.assertIs(is_watcher((ODD[0], (1, (True,) + ODD[1][1][1:]))), False)

    def test_put_out_of_their_kind(self):
        for watcher in (NEVER, ODD, SIX_STATES[:2] + ((0, (2,) * 13),)):
            for thing in spoiled(watcher):
                self.assertIs(is_watcher(thing), False, thing)

    def test_strangers(self):
        for thing in strangers() + [(), 0, 1] + list(GROUNDS):
            before = repr(thing)
            self.assertIs(is_watcher(thing), False)
            self.assertEqual(repr(thing), before)


class StatesOf(unittest.TestCase):
    def told(self, watcher, marks, states):
        answer = states_of(watcher, marks)
        only_plain(self, answer)
        self.assertEqual(answer, states)

    def test_no_marks(self):
        for watcher in (NEVER, ALWAYS, ODD, SIX_STATES):
            self.told(watcher, (), ())

    def test_one_mark(self):
        for mark in range(13):
            self.told(NEVER, (mark,), (0,))
            self.told(ODD, (mark,), (mark % 2,))
            self.told(SIX_STATES, (mark,), (int(mark == 12),))

    def test_several_marks(self):
        self.told(NEVER, tuple(range(13)), (0,) * 13)
        self.told(ODD, (0, 1, 3, 2, 2, 11, 12), (0, 1, 1, 0, 0, 1, 0))
        self.told(SIX_STATES, (3, 12, 12, 7, 12, 0, 12), (0, 1, 2, 2, 3, 0, 1))
        self.told(SIX_STATES, (12, 12, 12, 12, 12, 12, 0, 5), (1, 2, 3, 4, 5, 5, 5, 5))

    def test_step_by_step(self):
        chance = random.Random(172)
        for watcher in drawn_watchers(173):
            marks = tuple(chance.randrange(13) for _ in range(60))
            states = states_of(watcher, marks)
            for ahead, mark, state in zip((0,) + states, marks, states):
                self.assertEqual(state, watcher[ahead][1][mark])
            for length in range(60):
                self.told(watcher, marks[:length], states[:length])


class WatcherOf(unittest.TestCase):
    def told(self, groups, watcher):
        answer = watcher_of(groups)
        only_plain(self, answer)
        self.assertEqual(answer, watcher)
        self.assertIs(is_watcher(answer), True)

    def test_one_group(self):
        self.told(((1, 3, 5, 7, 9, 11),), ODD)
        self.told(((0,),), ((0, (1,) + (0,) * 12), (1, (1,) + (0,) * 12)))
        self.told(((12,),), ((0, (0,) * 12 + (1,)), (1, (0,) * 12 + (1,))))
        self.told((tuple(range(13)),), ((0, (1,) * 13), (1, (1,) * 13)))

    def test_an_empty_group(self):
        self.told(((),), ((0, (0,) * 13), (1, (0,) * 13)))
        self.told(((2,), ()), ((0, (0, 0, 1) + (0,) * 10), (0, (1,) * 13), (1, (0, 0, 1) + (0,) * 10)))
        self.told(((), (2,)), ((0, (0,) * 13), (0, (1, 1, 2) + (1,) * 10), (1, (0,) * 13)))

    def test_two_groups_that_share_a_mark(self):
        first = (0, 1, 1) + (0,) * 10
        self.told(((1, 2), (2, 12)), ((0, first), (0, (1, 1, 2) + (1,) * 9 + (2,)), (1, first)))

    def test_five_groups_state_by_state(self):
        groups = ((0,), (1, 2), (), (11, 12), tuple(range(13)))
        self.told(groups, (
            (0, (1, 0, 0, 0, 0, 0, 0, 0, 0, 0, 0, 0, 0)),
            (0, (1, 2, 2, 1, 1, 1, 1, 1, 1, 1, 1, 1, 1)),
            (0, (2, 2, 2, 2, 2, 2, 2, 2, 2, 2, 2, 2, 2)),
            (0, (3, 3, 3, 3, 3, 3, 3, 3, 3, 3, 3, 4, 4)),
            (0, (5, 5, 5, 5, 5, 5, 5, 5, 5, 5, 5, 5, 5)),
            (1, (1, 0, 0, 0, 0, 0, 0, 0, 0, 0, 0, 0, 0)),
        ))

    def test_drawn_groups(self):
        chance = random.Random(174)
        for count in range(1, 6):
            for _ in range(30):
                groups = drawn_groups(chance, count)
                watcher = watcher_of(groups)
                self.assertEqual([good for good, _ in watcher], [0] * count + [1])
                self.assertEqual(watcher[-1][1], watcher[0][1])
                for state, group in enumerate(groups):
                    expected = tuple(state + (mark in group) for mark in range(13))
                    self.assertEqual(watcher[state][1], expected)

    def test_good_again_and_again_just_if_all_groups_come_again_and_again(self):
        chance = random.Random(175)
        seen = {True: 0, False: 0}
        for _ in range(400):
            groups = drawn_groups(chance, chance.randint(1, 5))
            ring = tuple(chance.randrange(13) for _ in range(chance.randint(1, 8)))
            ahead = tuple(chance.randrange(13) for _ in range(10))
            watcher = watcher_of(groups)
            # Each round brings it on by one state at least, if any does.
            states = states_of(watcher, ahead + ring * 16)[-8 * len(ring):]
            all_come = all(set(group) & set(ring) for group in groups)
            self.assertEqual(any(watcher[state][0] for state in states), all_come, (groups, ring))
            seen[all_come] += 1
        self.assertGreater(min(seen.values()), 50)

    def test_no_group_and_six(self):
        refused_with(self, NoWatcher, watcher_of, ())
        for count in range(1, 10):
            if count > 5:
                refused_with(self, NoWatcher, watcher_of, ((1, 2),) * count)
                refused_with(self, NoWatcher, watcher_of, ((),) * count)
            else:
                self.assertEqual(len(watcher_of(((1, 2),) * count)), count + 1)

    def test_marks_that_do_not_rise(self):
        for group in ((1, 0), (0, 0), (12, 12), (0, 2, 1), (0, 1, 1), (12, 0)):
            for groups in ((group,), ((), group), (group, (3,)), ((1,), (2,), (3,), (4,), group)):
                refused_with(self, NoWatcher, watcher_of, groups)

    def test_what_are_no_marks(self):
        for group in ((-1,), (13,), (0, 13), (-1, 0), (True,), (False,), (None,), ("0",), ((0,),), ([],), [], [1], "",
                      "1", 1, 0, None, True, False):
            for groups in ((group,), ((), group), (group, (3,)), ((1,), (2,), (3,), (4,), group)):
                refused_with(self, NoWatcher, watcher_of, groups)

    def test_put_out_of_their_kind(self):
        for groups in spoiled(((1, 2), (0, 12), (5,))):
            refused_with(self, NoWatcher, watcher_of, groups)

    def test_strangers(self):
        right = [repr(groups) for groups in (((),), ((0,),))]
        for thing in strangers() + [0, 1, [(1,)], [[1]], (1, 2)]:
            if repr(thing) not in right:
                refused_with(self, NoWatcher, watcher_of, thing)

    def test_taken_by_each_name(self):
        for kind in (NoWatcher, GroundError, ValueError):
            with self.assertRaises(kind):
                watcher_of(())


class Judging(unittest.TestCase):
    def right_kinds(self, ground, watcher, answer):
        only_plain(self, answer)
        winners, pairs, moves = answer
        self.assertEqual((len(winners), len(pairs), len(moves)), (len(ground), len(watcher), len(watcher)))
        for row, moves_there in zip(pairs, moves):
            self.assertEqual((len(row), len(moves_there)), (len(ground), len(ground)))
            for place, winner, move in zip(ground, row, moves_there):
                self.assertIn(winner, (0, 1))
                if winner == place[0]:
                    self.assertIn(move, place[3])
                else:
                    self.assertIsNone(move)
        for place, winner, row in zip(ground, winners, zip(*pairs)):
            self.assertEqual(winner, row[states_of(watcher, (place[1],))[0]])

    def edges_of(self, ground, watcher, answer, player):
        """Where the play may go on, by state and place, among those that a player wins."""
        edges = {}
        for state, row in enumerate(answer[1]):
            for number, winner in enumerate(row):
                if winner == player:
                    mine = ground[number][0] == player
                    goals = (answer[2][state][number],) if mine else ground[number][3]
                    edges[state, number] = [(watcher[state][1][ground[goal][1]], goal) for goal in goals]
        return edges

    def judged(self, ground, watcher, who):
        """No play leaves what a player wins, and no ring among it is won by the other one: so all is told aright."""
        answer = watched(ground, watcher, who)
        self.right_kinds(ground, watcher, answer)
        for player in (0, 1):
            edges = self.edges_of(ground, watcher, answer, player)
            self.assertTrue(stays(edges), (ground, watcher, who))
            good = [pair for pair in edges if watcher[pair[0]][0] == 1]
            ring_lost = ring_beside_goals if player == who else ring_through_goals
            self.assertFalse(ring_lost(edges, good), (ground, watcher, who))
        return answer


class Watched(Judging):
    def test_one_place(self):
        for owner in (0, 1):
            for mark in range(13):
                ground = ((owner, mark, 5, (0,)),)
                for who in (0, 1):
                    move = 0 if owner == who else None
                    against = 0 if owner != who else None
                    self.assertEqual(watched(ground, ALWAYS, who), ((who,), ((who,),), ((move,),)))
                    self.assertEqual(watched(ground, NEVER, who), ((1 - who,), ((1 - who,),), ((against,),)))
                    winner = who if mark % 2 else 1 - who
                    move = 0 if owner == winner else None
                    self.assertEqual(watched(ground, ODD, who), ((winner,), ((winner,),) * 2, ((move,),) * 2))

    def test_the_choice_hangs_on_the_state(self):
        watcher = watcher_of(((1,), (2,)))
        winners, pairs, moves = self.judged(FORK, watcher, 0)
        self.assertEqual((winners, pairs), ((0, 0, 0), ((0, 0, 0),) * 3))
        # In state 0 a 1 is wanted, in state 1 a 2; by the place alone one of them would never come.
        self.assertEqual((moves[0][0], moves[1][0]), (1, 2))
        self.assertEqual({row[1:] for row in moves}, {(None, None)})
        self.assertEqual(self.judged(FORK, watcher, 1)[:2], ((0, 0, 0), ((0, 0, 0),) * 3))
        winners, pairs, moves = self.judged(with_the_owners_exchanged(FORK), watcher, 1)
        self.assertEqual((winners, pairs), ((1, 1, 1), ((1, 1, 1),) * 3))
        self.assertEqual((moves[0][0], moves[1][0]), (1, 2))
        self.assertEqual(self.judged(with_the_owners_exchanged(FORK), watcher, 0)[:2], ((1, 1, 1), ((1, 1, 1),) * 3))

    def test_who_wins_hangs_on_the_state(self):
        # State 1, come to by a 1 and never left, is good; from places 1 and 2 no 1 is come to any more.
        watcher = ((0, (0, 1) + (0,) * 11), (1, (1,) * 13))
        ground = ((0, 0, 0, (1, 2)), (0, 1, 0, (2,)), (1, 2, 0, (2,)))
        winners, pairs, moves = self.judged(ground, watcher, 0)
        self.assertEqual(pairs, ((0, 1, 1), (0, 0, 0)))
        # The mark of the first place is read, too: so the watcher is in state 1 at place 1, in 0 at place 2.
        self.assertEqual(winners, (0, 0, 1))
        self.assertEqual(moves[0], (1, None, 2))
        self.assertEqual(moves[1][1:], (2, None))
        winners, pairs, moves = self.judged(ground, watcher, 1)
        self.assertEqual((winners, pairs), ((0, 1, 0), ((0, 0, 0), (1, 1, 1))))
        self.assertEqual(moves, ((2, 2, None), (None, None, 2)))

    def test_the_watcher_begins_in_state_0(self):
        # States 1 and 2 go their own ways: which is come to is told by the first mark alone.
        watcher = ((0, (1, 2) + (0,) * 11), (1, (1,) * 13), (0, (2,) * 13))
        ground = ((0, 0, 0, (1,)), (1, 1, 0, (0,)))
        for who in (0, 1):
            winners, pairs, _ = self.judged(ground, watcher, who)
            self.assertEqual(winners, (who, 1 - who))
            # From place 0 in state 0 the 1 of place 1 is read next, and the other way round.
            self.assertEqual(pairs, ((1 - who, who), (who, who), (1 - who, 1 - who)))

    def test_samples(self):
        for ground in GROUNDS + (SIX, FORK):
            for watcher in [NEVER, ALWAYS, ODD, SIX_STATES] + drawn_watchers(176)[:6]:
                for who in (0, 1):
                    self.judged(ground, watcher, who)

    def test_always_and_never(self):
        for ground in drawn_grounds(177, 30, 24, 3):
            for who in (0, 1):
                self.assertEqual(self.judged(ground, ALWAYS, who)[0], (who,) * len(ground))
                self.assertEqual(self.judged(ground, NEVER, who)[0], (1 - who,) * len(ground))

    def test_drawn_watchers(self):
        seen = {0: 0, 1: 0}
        for seed in range(12):
            for ground in drawn_grounds(178 + seed, 2, 24, 3) + drawn_grounds(190 + seed, 2, 6, 3, 3):
                for watcher in drawn_watchers(202 + seed):
                    for who in (0, 1):
                        for row in self.judged(ground, watcher, who)[1]:
                            seen[0] += row.count(who)
                            seen[1] += row.count(1 - who)
        self.assertGreater(min(seen.values()), 1000)

    def test_gains_do_not_count(self):
        for ground in drawn_grounds(214, 10, 24, 3):
            other = tuple((who, mark, 0, goals) for who, mark, _, goals in ground)
            for watcher in drawn_watchers(215):
                self.assertEqual(watched(other, watcher, 0), watched(ground, watcher, 0))

    def test_the_other_winner_where_the_owners_and_who_are_exchanged(self):
        for ground in drawn_grounds(216, 20, 24, 3):
            for watcher in drawn_watchers(217):
                for who in (0, 1):
                    winners, pairs, _ = watched(ground, watcher, who)
                    other = watched(with_the_owners_exchanged(ground), watcher, 1 - who)
                    self.assertEqual(other[0], tuple(1 - winner for winner in winners))
                    self.assertEqual(other[1], tuple(tuple(1 - winner for winner in row) for row in pairs))

    def test_the_watcher_of_one_group_tells_what_again_tells(self):
        chance = random.Random(218)
        for ground in drawn_grounds(219, 100, 24, 3) + list(GROUNDS):
            group = drawn_group(chance)
            goals = tuple(number for number, place in enumerate(ground) if place[1] in group)
            for who in (0, 1):
                expected = again(ground, who, goals)[0]
                self.assertEqual(self.judged(ground, watcher_of((group,)), who)[:2], (expected, (expected,) * 2))

    def test_groups_that_are_the_same_or_come_anyway(self):
        chance = random.Random(220)
        for ground in drawn_grounds(221, 60, 24, 3):
            group = drawn_group(chance)
            for who in (0, 1):
                expected = watched(ground, watcher_of((group,)), who)[0]
                for groups in ((group,) * 5, (group, tuple(range(13))), (tuple(range(13)), group, group)):
                    self.assertEqual(watched(ground, watcher_of(groups), who)[0], expected)
                self.assertEqual(watched(ground, watcher_of((group, ())), who)[0], (1 - who,) * len(ground))

    def test_plays_by_the_told_moves(self):
        chance = random.Random(222)
        for ground in drawn_grounds(223, 12, 24, 3) + drawn_grounds(224, 12, 5, 3, 3):
            for watcher in drawn_watchers(225):
                for who in (0, 1):
                    answer = watched(ground, watcher, who)
                    self.play(chance, ground, watcher, who, answer, chance.randrange(len(ground)))

    def play(self, chance, ground, watcher, who, answer, start):
        """In as many steps as there are pairs a ring is gone round: with a good state in it, or with none."""
        winner, moves = answer[0][start], answer[2]
        count = len(ground) * len(watcher)
        number, state = start, states_of(watcher, (ground[start][1],))[0]
        gone = []
        for _ in range(3 * count):
            gone.append((state, number))
            mine = ground[number][0] == winner
            number = moves[state][number] if mine else chance.choice(ground[number][3])
            state = watcher[state][1][ground[number][1]]
        self.assertEqual(states_of(watcher, tuple(ground[number][1] for _, number in gone)),
                         tuple(state for state, _ in gone))
        goods = [pair for pair in gone if watcher[pair[0]][0] == 1]
        if winner == who:
            self.assertGreaterEqual(len(goods), 3)
        else:
            self.assertEqual(len(goods), len(set(goods)))


class WatchedRefused(unittest.TestCase):
    def test_no_watcher(self):
        state = (0, (0,) * 13)
        for thing in strangers() + [(), 0, 1, list(NEVER), (state,) * 7, (list(state),), ((0, (0,) * 12),),
                                    ((0, (0,) * 14),), ((2, (0,) * 13),), ((0, (1,) * 13),), ((0, (-1,) * 13),)]:
            for ground in (ONE, TWO, FOUR):
                for who in (0, 1):
                    refused_with(self, NoWatcher, watched, ground, thing, who)

    def test_put_out_of_their_kind(self):
        for thing in spoiled(ODD):
            refused_with(self, NoWatcher, watched, FOUR, thing, 0)

    def test_taken_by_each_name(self):
        for kind in (NoWatcher, GroundError, ValueError):
            with self.assertRaises(kind):
                watched(ONE, (), 0)


class Greatest(Judging):
    def in_time(self, ground, watcher):
        self.assertEqual((len(ground), len(watcher)), (24, 6))
        for who in (0, 1):
            start = time.process_time()
            watched(ground, watcher, who)
            self.assertLess(time.process_time() - start, 30)
            self.judged(ground, watcher, who)

    def test_24_places_and_6_states(self):
        chance = random.Random(226)
        watchers = [SIX_STATES, drawn_watcher(chance, 6), watcher_of(drawn_groups(chance, 5)),
                    watcher_of(((0, 1), (2, 3), (4, 5), (6, 7), (8, 9)))]
        for ground in (circle(24), full(24), drawn(chance, 24, 3), drawn(chance, 24, 24)) + HARD:
            for watcher in watchers:
                self.in_time(ground, watcher)


class AskedTwice(unittest.TestCase):
    def test_twice_the_same_and_nothing_changed(self):
        chance = random.Random(227)
        watchers = drawn_watchers(228)
        told_twice(self, is_watcher, [(watcher,) for watcher in watchers] + [(thing,) for thing in strangers()])
        told_twice(self, watcher_of, [(drawn_groups(chance, count),) for count in range(1, 6)])
        told_twice(self, states_of, [(watcher, drawn_group(chance)) for watcher in watchers])
        grounds = drawn_grounds(229, 6, 24, 4)
        told_twice(self, watched, [(ground, watcher, who) for ground in grounds for watcher in watchers
                                   for who in (0, 1)])


if __name__ == "__main__":
    unittest.main()
