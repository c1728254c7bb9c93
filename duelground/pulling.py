"""Forcing: coming to some places, and staying within some."""

from duelground.errors import NoPart
from duelground.parts import common, is_whole_part, staying_moves, without
from duelground.things import GOALS, WHO, are_some


def check_part(ground, inside, some):
    if not are_some(inside, len(ground)):
        raise NoPart("inside is not some places")
    if not are_some(some, len(ground)):
        raise NoPart("these are not some places")
    if len(without(some, inside)) > 0:
        raise NoPart("these places do not lie in inside")
    if not is_whole_part(ground, inside):
        raise NoPart("inside is not whole")


def is_forced(place, ways, who, ranks):
    known = [goal for goal in ways if ranks[goal] is not None]
    if place[WHO] == who:
        return len(known) > 0
    return len(known) == len(ways)


def ranks_to(ground, inside, who, goals):
    ways = [common(place[GOALS], inside) for place in ground]
    ranks = [0 if number in goals else None for number in range(len(ground))]
    rank = 0
    found = list(goals)
    while len(found) > 0:
        rank += 1
        unranked = [number for number in inside if ranks[number] is None]
        # All of a rank are found before one of them is ranked, else a later one would count on it a round too early.
        found = [number for number in unranked if is_forced(ground[number], ways[number], who, ranks)]
        for number in found:
            ranks[number] = rank
    return tuple(ranks)


def ranked(ranks):
    return tuple([number for number, rank in enumerate(ranks) if rank is not None])


def pulling_moves(ground, who, ranks):
    moves = [None for rank in ranks]
    for number in ranked(ranks):
        if ground[number][WHO] == who and ranks[number] > 0:
            # The least rank among the goals is always one less; outside of inside no place has a rank.
            moves[number] = [goal for goal in ground[number][GOALS] if ranks[goal] == ranks[number] - 1][0]
    return tuple(moves)


def pulled(ground, inside, who, goals):
    check_part(ground, inside, goals)
    ranks = ranks_to(ground, inside, who, goals)
    return (ranked(ranks), ranks, pulling_moves(ground, who, ranks))


def kept(ground, inside, who, places):
    check_part(ground, inside, places)
    # Who stays just where the other one can't force the play out of the places.
    ranks = ranks_to(ground, inside, 1 - who, without(inside, places))
    part = without(inside, ranked(ranks))
    return (part, staying_moves(ground, who, part))
