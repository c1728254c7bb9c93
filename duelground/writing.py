"""Grounds as texts."""

from duelground.errors import NoGround
from duelground.things import GAIN, GOALS, MARK, WHO, is_ground


def words_of_place(place):
    words = ["place", str(place[WHO]), str(place[MARK]), str(place[GAIN]), "to"]
    words.extend([str(goal) for goal in place[GOALS]])
    words.append("end")
    return words


def written(ground):
    if not is_ground(ground):
        raise NoGround("what is no ground is not written")
    words = ["ground", str(len(ground))]
    for place in ground:
        words.extend(words_of_place(place))
    return " ".join(words)
