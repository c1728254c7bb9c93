"""Checking moves: whether they win by marks, told by the rings that they leave to the other one."""

from duelground.errors import NoMoves, NoPart
from duelground.parts import without
from duelground.things import GOALS, MARK, WHO, are_moves, are_some


def ways_by(ground, who, places, moves):
    ways = {}
    for number in places:
        # A place without a move has the way to None, which leads out of any places.
        ways[number] = (moves[number],) if ground[number][WHO] == who else ground[number][GOALS]
    return ways


def come_to(ways, start, among):
    found = {}
    left = [start]
    while len(left) > 0:
        number = left.pop()
        for goal in ways[number]:
            if goal in among and goal not in found:
                found[goal] = True
                left.append(goal)
    return found


def is_on_lost_ring(ground, who, ways, number):
    highest = ground[number][MARK]
    if highest % 2 == who:
        return False
    among = [other for other in ways if ground[other][MARK] <= highest]
    return number in come_to(ways, number, among)


def holds(ground, who, places, moves):
    if not are_some(places, len(ground)):
        raise NoPart("places are not some places")
    if not are_moves(moves, ground):
        raise NoMoves("moves are no moves")
    ways = ways_by(ground, who, places, moves)
    if any([len(without(goals, places)) > 0 for goals in ways.values()]):
        return False
    return not any([is_on_lost_ring(ground, who, ways, number) for number in places])
