"""Likeness: places between which the games of marks see no difference."""

from duelground.changing import part_of, with_goals
from duelground.things import GOALS, MARK, WHO


def first_alike(signs):
    return tuple([signs.index(sign) for sign in signs])


def likes_of_goals(place, like):
    return sorted(set([like[goal] for goal in place[GOALS]]))


def likeness(ground):
    like = None
    # Places count as like until something tells them apart, so that those on rings, too, are like where they can be.
    finer = first_alike([(place[WHO], place[MARK]) for place in ground])
    while finer != like:
        like = finer
        finer = first_alike([(like[number], likes_of_goals(place, like)) for number, place in enumerate(ground)])
    return like


def folded(ground):
    like = likeness(ground)
    led = tuple([with_goals(place, likes_of_goals(place, like)) for place in ground])
    return part_of(led, tuple(sorted(set(like))))
