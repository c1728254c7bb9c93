"""Point 1.2, its writing half: a ground as words with one blank between each two."""

import inspect
import unittest

from duelground.errors import GroundError, NoGround
from duelground.writing import written
from tests.samples import FOUR, GROUNDS, ONE, TWO, circle, full, replaced, spoiled, strangers


class Written(unittest.TestCase):
    def test_names_and_arguments(self):
        self.assertEqual(list(inspect.signature(written).parameters), ["ground"])

    def test_ordinary(self):
        self.assertEqual(written(ONE), "ground 1 place 0 0 0 to 0 end")
        self.assertEqual(written(TWO), "ground 2 place 1 12 -20 to 0 1 end place 0 3 20 to 0 end")
        self.assertEqual(
            written(FOUR),
            "ground 4 place 0 2 -7 to 1 3 end place 1 11 0 to 0 1 2 3 end"
            " place 1 0 10 to 2 end place 0 5 -12 to 0 2 end",
        )

    def test_every_number(self):
        for who in (0, 1):
            for mark in range(13):
                for gain in range(-20, 21):
                    text = written(((who, mark, gain, (0,)),))
                    self.assertEqual(text, f"ground 1 place {who} {mark} {gain} to 0 end")

    def test_numbers_by_name(self):
        for gain, figures in ((-20, "-20"), (-10, "-10"), (-1, "-1"), (0, "0"), (9, "9"), (10, "10"), (20, "20")):
            self.assertEqual(written(((0, 0, gain, (0,)),)), "ground 1 place 0 0 " + figures + " to 0 end")

    def test_goals_of_two_figures(self):
        everywhere = "0 1 2 3 4 5 6 7 8 9 10 11 12 13 14 15 16 17 18 19 20 21 22 23"
        text = written(full(24))
        self.assertTrue(text.startswith("ground 24 place 0 12 12 to " + everywhere + " end place 1 11 11 to 0 1 "))
        self.assertTrue(text.endswith(" end place 1 2 -11 to " + everywhere + " end"))
        self.assertEqual(text.count(everywhere), 24)

    def test_words_in_their_order(self):
        for ground in GROUNDS:
            words = ["ground", str(len(ground))]
            for who, mark, gain, goals in ground:
                words += ["place", str(who), str(mark), str(gain), "to"] + [str(goal) for goal in goals] + ["end"]
            self.assertEqual(written(ground).split(" "), words)

    def test_one_blank_between_and_none_around(self):
        for ground in GROUNDS:
            text = written(ground)
            self.assertIs(type(text), str)
            self.assertEqual(text, " ".join(text.split()))

    def test_other_grounds_have_other_texts(self):
        texts = {written(ground) for ground in GROUNDS}
        self.assertEqual(len(texts), len(GROUNDS))

    def test_nothing_changed_and_twice_the_same(self):
        for ground in GROUNDS:
            before = repr(ground)
            first = written(ground)
            self.assertEqual(repr(ground), before)
            self.assertEqual(written(ground), first)


class Refused(unittest.TestCase):
    def refused(self, thing):
        before = repr(thing)
        with self.assertRaises(NoGround, msg=before) as caught:
            written(thing)
        self.assertIs(type(caught.exception), NoGround)
        self.assertEqual(repr(thing), before)

    def test_wrong_things(self):
        for thing in strangers():
            self.refused(thing)

    def test_wrong_things_at_every_depth(self):
        for ground in (ONE, TWO, FOUR):
            for thing in spoiled(ground):
                self.refused(thing)

    def test_edges(self):
        for thing in (
            (), circle(25), full(25), ((2, 0, 0, (0,)),), ((-1, 0, 0, (0,)),), ((0, 13, 0, (0,)),),
            ((0, -1, 0, (0,)),), ((0, 0, 21, (0,)),), ((0, 0, -21, (0,)),), ((0, 0, 0, ()),), ((0, 0, 0, (1,)),),
            ((0, 0, 0, (-1,)),), ((0, 0, 0, (0, 0)),), replaced(TWO, 0, (0, 0, 0, (1, 0))), ((0, 0, 0),),
            ((0, 0, 0, (0,), 0),), FOUR[:3], TWO[0],
        ):
            self.refused(thing)

    def test_taken_as_ground_error_and_as_value_error(self):
        for kind in (NoGround, GroundError, ValueError):
            for thing in ((), None, [(0, 0, 0, (0,))], ((True, 0, 0, (0,)),)):
                with self.assertRaises(kind):
                    written(thing)

    def test_refused_twice(self):
        for _ in range(2):
            self.refused(())
        self.assertEqual(written(ONE), "ground 1 place 0 0 0 to 0 end")


if __name__ == "__main__":
    unittest.main()
