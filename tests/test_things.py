"""Points 0.3, 0.4 and 1.1: what whole numbers, a place, a ground, some places and moves are."""

import inspect
import itertools
import unittest

from duelground import things
from duelground.things import are_moves, are_some, is_ground, is_place
from tests.samples import FOUR, GROUNDS, ONE, TWO, circle, full, nested, replaced, spoiled, strangers

PLACE = (1, 4, -3, (0, 2))


class Asking(unittest.TestCase):
    """The answer must be True or False itself, not what merely counts as it."""

    def yes(self, ask, *given):
        self.assertIs(ask(*given), True, f"{ask.__name__}{given!r}")

    def no(self, ask, *given):
        self.assertIs(ask(*given), False, f"{ask.__name__}{given!r}")

    def told(self, expected, ask, *given):
        self.assertIs(ask(*given), expected, f"{ask.__name__}{given!r}")


class Interface(unittest.TestCase):
    def test_names_and_arguments(self):
        wanted = {
            "is_place": ["thing", "count"],
            "is_ground": ["thing"],
            "are_some": ["thing", "count"],
            "are_moves": ["thing", "ground"],
        }
        for name, arguments in wanted.items():
            self.assertEqual(list(inspect.signature(getattr(things, name)).parameters), arguments)


class Places(Asking):
    def test_ordinary(self):
        self.yes(is_place, PLACE, 3)
        self.yes(is_place, (0, 0, 0, (0,)), 1)
        for ground in GROUNDS:
            for place in ground:
                self.yes(is_place, place, len(ground))

    def test_who(self):
        for who in range(-3, 5):
            self.told(who in (0, 1), is_place, replaced(PLACE, 0, who), 3)

    def test_mark(self):
        for mark in range(-3, 17):
            self.told(0 <= mark <= 12, is_place, replaced(PLACE, 1, mark), 3)

    def test_edges_of_mark_by_name(self):
        for mark, expected in ((0, True), (12, True), (-1, False), (13, False)):
            self.told(expected, is_place, (0, mark, 0, (0,)), 1)

    def test_gain(self):
        for gain in range(-25, 26):
            self.told(abs(gain) <= 20, is_place, replaced(PLACE, 2, gain), 3)

    def test_edges_of_gain_by_name(self):
        for gain, expected in ((-20, True), (20, True), (-21, False), (21, False)):
            self.told(expected, is_place, (0, 0, gain, (0,)), 1)

    def test_great_numbers(self):
        for where in range(3):
            for number in (10 ** 30, -10 ** 30, 2 ** 32, 2 ** 64, -2 ** 64):
                self.no(is_place, replaced(PLACE, where, number), 3)
        self.no(is_place, replaced(PLACE, 3, (10 ** 30,)), 3)

    def test_goals_against_all_rows(self):
        for count in range(5):
            right = set()
            for length in range(1, count + 1):
                right.update(itertools.combinations(range(count), length))
            for length in range(5):
                for goals in itertools.product(range(-1, count + 2), repeat=length):
                    self.told(goals in right, is_place, (0, 5, 1, goals), count)

    def test_edges_of_goals_by_name(self):
        everywhere = tuple(range(24))
        for goals, expected in (
            ((), False), ((0,), True), ((23,), True), (everywhere, True), (everywhere[::-1], False),
            ((1, 0), False), ((0, 2, 1), False), ((0, 0), False), ((0, 1, 1), False), ((5, 6, 6, 7), False),
            ((24,), False), ((-1,), False), ((-1, 0), False), ((0, 24), False), (everywhere + (24,), False),
        ):
            self.told(expected, is_place, (0, 0, 0, goals), 24)

    def test_count_bounds_the_goals(self):
        for count in range(27):
            for goal in range(28):
                self.told(goal < count, is_place, (1, 1, 1, (goal,)), count)

    def test_never_more_than_24_goals(self):
        self.yes(is_place, (0, 0, 0, tuple(range(24))), 25)
        self.yes(is_place, (0, 0, 0, tuple(range(1, 25))), 25)
        self.no(is_place, (0, 0, 0, tuple(range(25))), 25)
        self.no(is_place, (0, 0, 0, tuple(range(26))), 26)

    def test_too_short_or_too_long(self):
        for length in range(4):
            self.no(is_place, PLACE[:length], 3)
            self.no(is_place, PLACE[length + 1:], 3)
        for more in (0, None, (), (0,), "end"):
            self.no(is_place, PLACE + (more,), 3)
            self.no(is_place, (more,) + PLACE, 3)

    def test_wrong_things(self):
        for thing in strangers():
            self.no(is_place, thing, 3)
        self.no(is_place, ONE, 1)

    def test_wrong_things_at_every_depth(self):
        for place in (PLACE, (0, 0, 0, (0,)), (1, 1, 1, (0, 1))):
            for thing in spoiled(place):
                self.no(is_place, thing, 3)

    def test_a_truth_is_no_number(self):
        right = (1, 1, 1, (0, 1))
        self.yes(is_place, right, 2)
        for wrong in (
            (True, 1, 1, (0, 1)), (1, True, 1, (0, 1)), (1, 1, True, (0, 1)),
            (1, 1, 1, (0, True)), (1, 1, 1, (False, 1)), (1, 1, 1, (False,)), (1, 1, 1, True),
            (False, 1, 1, (0, 1)), (1, False, 1, (0, 1)), (1, 1, False, (0, 1)),
        ):
            self.no(is_place, wrong, 2)


class Grounds(Asking):
    def test_ordinary(self):
        for ground in GROUNDS:
            self.yes(is_ground, ground)

    def test_how_many_places(self):
        for count in range(1, 31):
            self.told(count <= 24, is_ground, circle(count))
        self.yes(is_ground, ONE)
        self.yes(is_ground, full(24))
        self.no(is_ground, ())
        self.no(is_ground, full(25))
        self.no(is_ground, ONE * 25)
        self.yes(is_ground, ONE * 24)

    def test_every_place_counts(self):
        for ground in GROUNDS:
            for where, place in enumerate(ground):
                for other in (
                    replaced(place, 0, 2), replaced(place, 0, -1), replaced(place, 1, 13), replaced(place, 1, -1),
                    replaced(place, 2, 21), replaced(place, 2, -21), replaced(place, 3, ()),
                    replaced(place, 3, (len(ground),)), replaced(place, 3, (-1,)), replaced(place, 3, (0, 0)),
                    place[:3], place + (0,), list(place),
                ):
                    self.no(is_ground, replaced(ground, where, other))

    def test_goals_are_places_of_this_ground(self):
        for where in range(2):
            self.yes(is_ground, replaced(TWO, where, (0, 0, 0, (1,))))
            self.no(is_ground, replaced(TWO, where, (0, 0, 0, (2,))))
        self.no(is_ground, FOUR[:3])
        self.yes(is_ground, FOUR + (FOUR[0],))

    def test_wrong_things(self):
        for thing in strangers():
            self.no(is_ground, thing)
        self.no(is_ground, (0, 0, 0, (0,)))
        self.no(is_ground, 1)

    def test_wrong_things_at_every_depth(self):
        for ground in (ONE, TWO, FOUR):
            for thing in spoiled(ground):
                self.no(is_ground, thing)


class Some(Asking):
    def test_against_all_rows(self):
        for count in range(5):
            right = set()
            for length in range(count + 1):
                right.update(itertools.combinations(range(count), length))
            for length in range(5):
                for row in itertools.product(range(-1, count + 2), repeat=length):
                    self.told(row in right, are_some, row, count)

    def test_none_at_all(self):
        for count in range(27):
            self.yes(are_some, (), count)

    def test_edges_by_name(self):
        everywhere = tuple(range(24))
        for row, expected in (
            ((0,), True), ((23,), True), ((0, 23), True), (everywhere, True), (everywhere[::-1], False),
            ((24,), False), ((-1,), False), ((0, 24), False), ((3, 3), False), ((4, 3), False), ((1, 2, 2), False),
            (everywhere + (24,), False), ((-1,) + everywhere, False), ((10 ** 30,), False),
        ):
            self.told(expected, are_some, row, 24)

    def test_wrong_things(self):
        for thing in strangers():
            self.told(thing == () and isinstance(thing, tuple), are_some, thing, 24)
        for number in (0, 1, 3):
            self.no(are_some, number, 24)

    def test_wrong_things_at_every_depth(self):
        for row in ((0,), (1,), (0, 1), (0, 1, 5, 23)):
            for thing in spoiled(row):
                self.no(are_some, thing, 24)

    def test_an_empty_list_and_an_empty_text_are_not_no_places(self):
        self.no(are_some, [], 3)
        self.no(are_some, "", 3)
        self.no(are_some, {}, 3)


class Moves(Asking):
    def test_against_all_rows(self):
        options = [None, -1, 0, 1, 2, 3, 4]
        for row in itertools.product(options, repeat=4):
            expected = all(move is None or move in place[3] for move, place in zip(row, FOUR))
            self.told(expected, are_moves, row, FOUR)

    def test_none_everywhere(self):
        for ground in GROUNDS:
            self.yes(are_moves, (None,) * len(ground), ground)

    def test_first_and_last_goals(self):
        for ground in GROUNDS:
            self.yes(are_moves, tuple(place[3][0] for place in ground), ground)
            self.yes(are_moves, tuple(place[3][-1] for place in ground), ground)

    def test_whoever_has_the_place(self):
        for who in (0, 1):
            ground = ((who, 0, 0, (1,)), (1 - who, 0, 0, (0,)))
            for row in ((1, 0), (1, None), (None, 0), (None, None)):
                self.yes(are_moves, row, ground)

    def test_a_place_that_is_not_led_to(self):
        ground = circle(24)
        right = tuple(place[3][0] for place in ground)
        for where in range(24):
            for goal in range(-2, 27):
                self.told(goal == right[where], are_moves, replaced(right, where, goal), ground)

    def test_too_short_or_too_long(self):
        self.no(are_moves, (), ONE)
        for ground in GROUNDS:
            for right in (tuple(place[3][0] for place in ground), (None,) * len(ground)):
                self.no(are_moves, right[:-1], ground)
                self.no(are_moves, right + (None,), ground)
                self.no(are_moves, right + right[:1], ground)

    def test_wrong_things(self):
        for ground in (ONE, TWO, FOUR):
            for thing in strangers():
                # A tuple of None alone is the one stranger that is moves, on a ground of one place.
                self.told(thing == (None,) and ground == ONE, are_moves, thing, ground)
        self.no(are_moves, 0, ONE)
        self.no(are_moves, ONE, ONE)

    def test_wrong_things_at_every_depth(self):
        for ground, row in ((TWO, (0, 0)), (TWO, (1, 0)), (FOUR, (1, 0, 2, 0)), (FOUR, (3, 1, 2, 2))):
            self.yes(are_moves, row, ground)
            for thing in spoiled(row):
                fine = isinstance(thing, tuple) and len(thing) == len(row) and thing.count(None) == 1
                self.told(fine, are_moves, thing, ground)

    def test_a_truth_is_no_move(self):
        self.no(are_moves, (True, 0), TWO)
        self.no(are_moves, (False, 0), TWO)
        self.no(are_moves, (1, False), TWO)
        self.no(are_moves, (None, False), TWO)
        self.no(are_moves, (False,), ONE)


class Again(unittest.TestCase):
    """What is handed in stays as it was, and asked twice the same is told."""

    def asks(self):
        given = strangers() + list(GROUNDS) + [PLACE, list(PLACE), (None, 0), [None, 0]]
        given += [[[0, 0, 0, [0]]], ([0, 0, 0, [0]],), ((0, 0, 0, [0]),), nested(5, list)]
        for thing in given:
            yield is_place, (thing, 3)
            yield is_ground, (thing,)
            yield are_some, (thing, 24)
            yield are_moves, (thing, TWO)

    def test_twice_the_same_and_nothing_changed(self):
        for ask, given in self.asks():
            before = repr(given)
            first = ask(*given)
            self.assertEqual(repr(given), before)
            self.assertIs(ask(*given), first)
            self.assertEqual(repr(given), before)

    def test_whatever_was_asked_between(self):
        asked = list(self.asks())
        first = [ask(*given) for ask, given in asked]
        backwards = [ask(*given) for ask, given in reversed(asked)]
        self.assertEqual(first, backwards[::-1])


if __name__ == "__main__":
    unittest.main()
