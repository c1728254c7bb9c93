"""Texts as grounds."""

from duelground.errors import NoText
from duelground.things import MOST_GAIN, MOST_MARK, MOST_PLACES, is_ground
from duelground.writing import written

# Where each word stands behind the word "place": who, mark and gain, then "to", the goals, "end".
TO = 3
LEAST_WORDS = 6


def numbers_by_words():
    # Few numbers stand in a text, and each in one form alone; Python's int would take "+1" and "1_0" as well.
    most = max(MOST_PLACES, MOST_MARK, MOST_GAIN)
    return dict([(str(number), number) for number in range(-MOST_GAIN, most + 1)])


def place_of_words(words, numbers):
    if len(words) < LEAST_WORDS:
        raise NoText("a place has too few words")
    row = [numbers.get(word) for word in words]
    return (row[0], row[1], row[2], tuple(row[TO + 1:-1]))


def read(text):
    numbers = numbers_by_words()
    rows = text.split(" place ")[1:]
    ground = tuple([place_of_words(row.split(" "), numbers) for row in rows])
    # The rows are taken without a look at the words between them: the writing shows whether these are right.
    if not is_ground(ground) or written(ground) != text:
        raise NoText("the text is no ground's writing")
    return ground
