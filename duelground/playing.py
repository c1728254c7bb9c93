"""Playing by the moves of both: the ring that is come to, and who wins it by marks."""

from duelground.errors import NoMoves, NoPart
from duelground.things import GOALS, MARK, WHO, are_moves, is_between


def is_number_of_place(thing, ground):
    return is_between(thing, 0, len(ground) - 1)


def moves_by_owners(ground, zero, one):
    both = (zero, one)
    return tuple([both[place[WHO]][number] for number, place in enumerate(ground)])


def ring_of(ground, zero, one, start):
    if not are_moves(zero, ground) or not are_moves(one, ground):
        raise NoMoves("one of both is no moves")
    moves = moves_by_owners(ground, zero, one)
    if None in moves:
        raise NoMoves("a place has no move by its own player's moves")
    if not is_number_of_place(start, ground):
        raise NoPart("start is no place")
    play = []
    number = start
    while number not in play:
        play.append(number)
        number = moves[number]
    entered = play.index(number)
    return (tuple(play[:entered]), tuple(play[entered:]))


def is_ring(thing, ground):
    if not isinstance(thing, tuple) or len(thing) == 0:
        return False
    if not all([is_number_of_place(number, ground) for number in thing]):
        return False
    following = thing[1:] + thing[:1]
    return all([goal in ground[number][GOALS] for number, goal in zip(thing, following)])


def judged(ground, ring):
    if not is_ring(ring, ground):
        raise NoPart("this is no ring of places")
    return max([ground[number][MARK] for number in ring]) % 2
