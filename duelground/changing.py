"""Changes of grounds: the players exchanged, marks pressed together, grounds side by side, parts by themselves."""

from duelground.errors import NoMark, NoPart, NoRoom
from duelground.parts import common, is_whole_part
from duelground.things import GAIN, GOALS, MARK, MOST_MARK, MOST_PLACES, WHO, are_some


def with_goals(place, goals):
    return (place[WHO], place[MARK], place[GAIN], tuple(goals))


def marks_of(ground):
    return [place[MARK] for place in ground]


def exchanged(ground):
    if MOST_MARK in marks_of(ground):
        raise NoMark("no mark is 1 more than the greatest one")
    return tuple([(1 - place[WHO], place[MARK] + 1, -place[GAIN], place[GOALS]) for place in ground])


def pressed_marks(marks):
    stands = {}
    least = 0
    for mark in sorted(set(marks)):
        stands[mark] = least + (mark - least) % 2
        least = stands[mark] + 1
    return stands


def pressed(ground):
    stands = pressed_marks(marks_of(ground))
    return tuple([(place[WHO], stands[place[MARK]], place[GAIN], place[GOALS]) for place in ground])


def beside(one, other):
    count = len(one)
    if count + len(other) > MOST_PLACES:
        raise NoRoom("these are more places than a ground has")
    return one + tuple([with_goals(place, [goal + count for goal in place[GOALS]]) for place in other])


def goals_anew(place, inside):
    return [inside.index(goal) for goal in common(place[GOALS], inside)]


def part_of(ground, inside):
    if not are_some(inside, len(ground)) or len(inside) == 0:
        raise NoPart("inside is not some places, one at least")
    if not is_whole_part(ground, inside):
        raise NoPart("inside is not whole")
    return tuple([with_goals(ground[number], goals_anew(ground[number], inside)) for number in inside])
