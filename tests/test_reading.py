"""Point 1.2, its reading half: a text is read to the ground of which it is the writing, every other one refused."""

import inspect
import random
import re
import unittest

from duelground.errors import GroundError, NoText
from duelground.reading import read
from duelground.writing import written
from tests.plays import drawn_grounds
from tests.samples import FOUR, GROUNDS, ONE, TWO, circle, full

EDGES = ((1, 12, -20, (0, 1)), (0, 0, 20, (1,)))
TEXT = "ground 2 place 1 12 -20 to 0 1 end place 0 3 20 to 0 end"
NUMBER = "(?:0|-?[1-9][0-9]*)"
PLACE = f"place {NUMBER} {NUMBER} {NUMBER} to(?: {NUMBER})+ end"


def by_pattern(text):
    """The ground of which a text is the writing, or None, found in another way than the program's."""
    if not re.fullmatch(f"ground {NUMBER}(?: {PLACE})+", text):
        return None
    ground = []
    for row in re.findall(PLACE, text):
        numbers = [int(figures) for figures in re.findall(NUMBER, row)]
        ground.append((numbers[0], numbers[1], numbers[2], tuple(numbers[3:])))
    fine = text.startswith(f"ground {len(ground)} ") and len(ground) <= 24
    for who, mark, gain, goals in ground:
        fine = fine and who in (0, 1) and 0 <= mark <= 12 and -20 <= gain <= 20
        fine = fine and all(0 <= goal < len(ground) for goal in goals) and list(goals) == sorted(set(goals))
    return tuple(ground) if fine else None


def same_kinds(one, other):
    if type(one) is not type(other):
        return False
    if isinstance(one, tuple):
        return len(one) == len(other) and all(same_kinds(*pair) for pair in zip(one, other))
    return True


class Reading(unittest.TestCase):
    def read_to(self, text, ground):
        answer = read(text)
        self.assertEqual(answer, ground)
        self.assertTrue(same_kinds(answer, ground), answer)

    def refused(self, text):
        with self.assertRaises(NoText, msg=repr(text)) as caught:
            read(text)
        self.assertIs(type(caught.exception), NoText)

    def judged(self, text):
        ground = by_pattern(text)
        if ground is None:
            self.refused(text)
        else:
            self.read_to(text, ground)


class Read(Reading):
    def test_names_and_arguments(self):
        self.assertEqual(list(inspect.signature(read).parameters), ["text"])

    def test_by_hand(self):
        self.read_to("ground 1 place 0 0 0 to 0 end", ONE)
        self.read_to(TEXT, TWO)
        self.read_to("ground 2 place 1 12 -20 to 0 1 end place 0 0 20 to 1 end", EDGES)
        self.read_to(
            "ground 4 place 0 2 -7 to 1 3 end place 1 11 0 to 0 1 2 3 end place 1 0 10 to 2 end place 0 5 -12 to 0 2 end",
            FOUR,
        )

    def test_what_is_written_is_read(self):
        for ground in GROUNDS + (circle(1), full(1), circle(23), full(23), circle(24), full(24)):
            self.read_to(written(ground), ground)

    def test_drawn_grounds(self):
        for ground in drawn_grounds(1, 300, 24, 24):
            self.read_to(written(ground), ground)

    def test_every_number(self):
        for who in (0, 1):
            for mark in range(13):
                for gain in range(-20, 21):
                    self.read_to(f"ground 1 place {who} {mark} {gain} to 0 end", ((who, mark, gain, (0,)),))
        for goal in range(24):
            ground = tuple((0, 0, 0, (goal,)) for _ in range(24))
            self.read_to("ground 24" + f" place 0 0 0 to {goal} end" * 24, ground)

    def test_twice_the_same(self):
        for ground in GROUNDS:
            text = written(ground)
            self.assertEqual(read(text), read(text))
            self.assertEqual(text, written(ground))
        for _ in range(2):
            self.refused("")
            self.read_to(TEXT, TWO)


class Refused(Reading):
    def test_taken_by_each_name(self):
        for kind in (NoText, GroundError, ValueError):
            for text in ("", " ", "ground", TEXT + " ", TEXT[1:], "ground 1 place 0 13 0 to 0 end"):
                with self.assertRaises(kind):
                    read(text)

    def test_short_texts(self):
        for text in (
            "", " ", "  ", "\n", "\t", "~", "0", "ground", "ground ", "ground 0", "ground 1", "ground 0 ", "place",
            " place ", " place  place ", "ground 1 place", "ground 1 place ", "ground 1 place end", "ground 0 end",
            "place 0 0 0 to 0 end", "ground place 0 0 0 to 0 end", "1 place 0 0 0 to 0 end", "(0, 0, 0, (0,))",
        ):
            self.refused(text)

    def test_beginnings_and_endings(self):
        for ground in (ONE, TWO, FOUR):
            text = written(ground)
            for where in range(len(text)):
                self.refused(text[:where])
                self.refused(text[where + 1:])
                self.judged(text[:where] + text[where + 1:])

    def test_each_blank(self):
        for text in (written(ONE), TEXT, written(circle(3))):
            for found in re.finditer(" ", text):
                before, behind = text[:found.start()], text[found.end():]
                for other in ("  ", "   ", "\t", "\n", " \n", "\t ", "\n ", "_", "-", ",", "\n\n"):
                    self.refused(before + other + behind)
                self.judged(before + behind)

    def test_blanks_around(self):
        for sign in (" ", "\n", "\t", "  ", " \n"):
            for text in (written(ONE), TEXT):
                self.refused(sign + text)
                self.refused(text + sign)
                self.refused(sign + text + sign)

    def test_a_word_less_or_twice(self):
        for ground in (ONE, TWO, FOUR, full(3)):
            words = written(ground).split(" ")
            for where, word in enumerate(words):
                self.judged(" ".join(words[:where] + words[where + 1:]))
                self.judged(" ".join(words[:where] + [word] + words[where:]))

    def test_words_exchanged(self):
        for ground in (ONE, TWO, FOUR):
            words = written(ground).split(" ")
            for one in range(len(words)):
                for other in range(one):
                    changed = list(words)
                    changed[one], changed[other] = words[other], words[one]
                    self.judged(" ".join(changed))

    def test_another_word_or_one_more(self):
        others = ("ground", "place", "to", "end", "", "0", "1", "2", "-1", "12", "13", "x", "true", "None", "0,", "(0)")
        for ground in (ONE, TWO):
            words = written(ground).split(" ")
            for where in range(len(words) + 1):
                for other in others:
                    self.judged(" ".join(words[:where] + [other] + words[where:]))
                    self.judged(" ".join(words[:where] + [other] + words[where + 1:]))

    def test_capitals(self):
        for word in ("ground", "place", "to", "end"):
            for other in (word.upper(), word.capitalize(), word[:-1] + word[-1].upper(), word + "s", word[:-1]):
                self.refused(TEXT.replace(word, other, 1))
                self.refused(TEXT.replace(word, other))
        self.refused(TEXT.upper())

    def test_two_words_by_name(self):
        self.refused("ground 2 place 1 12 -20 to 0 1 end place 0 3 20 to 0")
        self.refused("ground 2 place 1 12 -20 to 0 1 place 0 3 20 to 0 end")
        self.refused("ground 2 place 1 12 -20 to 0 1 end 0 3 20 to 0 end")
        self.refused("ground 2 place 1 12 -20 0 1 end place 0 3 20 to 0 end")
        self.refused("ground 2 place 1 12 -20 end 0 1 to place 0 3 20 to 0 end")
        self.refused("ground 1 place 0 0 0 to 0 to end")
        self.refused("ground 1 place 0 0 0 to end 0 end")

    def test_forms_of_numbers(self):
        words = TEXT.split(" ")
        for where, word in enumerate(words):
            if word.strip("-").isdigit():
                bare = word.strip("-")
                for other in (
                    "0" + word, "00" + word, "+" + word, "-" + word, "--" + word, "_" + word, word + "_", "-0" + bare,
                    "+0", "-0", "00", "", "-", "+", "0x" + bare, "0b1", word + ".0", word + "e0", word + ",", word + "L",
                    "'" + word + "'", "(" + word + ")", word[:1] + "_" + word[1:], word[:1] + " " + word[1:],
                    "- " + bare, bare + "-", word + "\n", "\t" + word, "1_0", "1 0",
                ):
                    self.judged(" ".join(words[:where] + [other] + words[where + 1:]))

    def test_forms_of_numbers_by_name(self):
        for figures in ("00", "+0", "-0", "", "0_0", "0 0", "0.", "0x0"):
            self.refused(f"ground 1 place {figures} 0 0 to 0 end")
            self.refused(f"ground 1 place 0 {figures} 0 to 0 end")
            self.refused(f"ground 1 place 0 0 {figures} to 0 end")
            self.refused(f"ground 1 place 0 0 0 to {figures} end")
        for figures in ("01", "+1", "1_", "_1", "", "1 1", "one"):
            self.refused(f"ground {figures} place 0 0 0 to 0 end")
        for figures in ("-05", "-0005", "--5", "-+5", "+-5", "- 5", "5-", "1_2", "-1_2", "012", "+12", "1 2"):
            self.refused(f"ground 1 place 0 0 {figures} to 0 end")

    def test_counts(self):
        for ground in (ONE, TWO, FOUR, circle(24)):
            behind = written(ground).split(" ", 2)[2]
            for count in range(-2, 30):
                if count == len(ground):
                    self.read_to(f"ground {count} {behind}", ground)
                else:
                    self.refused(f"ground {count} {behind}")

    def test_too_many_places(self):
        for count in (25, 26, 40):
            self.refused(f"ground {count}" + " place 0 0 0 to 0 end" * count)
            self.refused("ground 24" + " place 0 0 0 to 0 end" * count)

    def test_beyond_the_bounds(self):
        for who in (-1, 2, 3, 10, 24):
            self.refused(f"ground 1 place {who} 0 0 to 0 end")
        for mark in (-1, 13, 14, 20, 24):
            self.refused(f"ground 1 place 0 {mark} 0 to 0 end")
        for gain in (-22, -21, 21, 22, 24, 100):
            self.refused(f"ground 1 place 0 0 {gain} to 0 end")
        for goal in (-1, 1, 2, 24):
            self.refused(f"ground 1 place 0 0 0 to {goal} end")
        for goal in (-1, 24, 25):
            self.refused("ground 24" + " place 0 0 0 to 0 end" * 23 + f" place 0 0 0 to {goal} end")

    def test_great_numbers(self):
        for figures in ("1" + "0" * 30, "9" * 5000, "-" + "9" * 5000, "0" * 5000, str(2 ** 64), str(2 ** 32 + 1)):
            self.refused(f"ground {figures} place 0 0 0 to 0 end")
            self.refused(f"ground 1 place {figures} 0 0 to 0 end")
            self.refused(f"ground 1 place 0 {figures} 0 to 0 end")
            self.refused(f"ground 1 place 0 0 {figures} to 0 end")
            self.refused(f"ground 1 place 0 0 0 to {figures} end")

    def test_goals(self):
        for goals in ("1 0", "0 0", "1 1", "0 1 1", "0 0 1", "0 1 0", "2", "0 2", "-1 0", "0 1 2"):
            self.refused(f"ground 2 place 0 0 0 to {goals} end place 0 0 0 to 0 end")
        self.refused("ground 1 place 0 0 0 to end")
        self.refused("ground 1 place 0 0 0 to  end")
        self.refused("ground 2 place 0 0 0 to 0 end place 0 0 0 to end")

    def test_other_forms_of_a_ground(self):
        for text in (repr(TWO), str(list(TWO)), TEXT + " " + TEXT, TEXT + "\n" + TEXT, TEXT + " end", TEXT.replace(" ", ""),
                     TEXT.replace(" ", "\n"), "\n".join(["ground 1", "place 0 0 0 to 0 end"]), "'" + TEXT + "'"):
            self.refused(text)

    def test_drawn_signs(self):
        chance = random.Random(2)
        signs = [chr(code) for code in range(32, 127)] + ["\t", "\n"]
        for _ in range(300):
            self.refused("".join(chance.choice(signs) for _ in range(chance.randint(0, 60))))
        for ground in (ONE, TWO, FOUR):
            text = written(ground)
            for _ in range(1000):
                where = chance.randrange(len(text) + 1)
                sign = chance.choice(signs)
                self.judged(text[:where] + sign + text[where:])
                self.judged(text[:where] + sign + text[where + 1:])

    def test_drawn_words(self):
        chance = random.Random(3)
        words = ["ground", "place", "to", "end", "0", "1", "2", "-1", "01", "", "place 0 0 0 to 0 end"]
        for _ in range(2000):
            text = " ".join(chance.choice(words) for _ in range(chance.randint(0, 9)))
            self.judged(text)
            self.judged("ground 1 " + text)

    def test_long_texts(self):
        for text in (" " * 100000, " place " * 20000, "ground " * 20000, "place 0 0 0 to 0 end " * 5000,
                     "ground 1 place 0 0 0 to" + " 0" * 50000 + " end"):
            self.refused(text)


if __name__ == "__main__":
    unittest.main()
