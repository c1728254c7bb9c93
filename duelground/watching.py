"""Watchers: states that go on by the marks of a play, and the game of good states that come again and again."""

from duelground.again import again
from duelground.changing import with_goals
from duelground.errors import NoWatcher
from duelground.things import GOALS, MARK, are_some, is_between

MOST_STATES = 6
COUNT_OF_MARKS = 13

# Where each part stands in a state.
GOOD = 0
STEPS = 1
PARTS_OF_STATE = 2


def is_tuple_of(thing, least, most):
    return isinstance(thing, tuple) and least <= len(thing) <= most


def are_steps(thing, count):
    if not is_tuple_of(thing, COUNT_OF_MARKS, COUNT_OF_MARKS):
        return False
    return all([is_between(step, 0, count - 1) for step in thing])


def is_state(thing, count):
    if not is_tuple_of(thing, PARTS_OF_STATE, PARTS_OF_STATE):
        return False
    return is_between(thing[GOOD], 0, 1) and are_steps(thing[STEPS], count)


def is_watcher(thing):
    return is_tuple_of(thing, 1, MOST_STATES) and all([is_state(state, len(thing)) for state in thing])


def states_of(watcher, marks):
    states = []
    state = 0
    for mark in marks:
        state = watcher[state][STEPS][mark]
        states.append(state)
    return tuple(states)


def steps_by(group, state):
    return tuple([state + 1 if mark in group else state for mark in range(COUNT_OF_MARKS)])


def watcher_of(groups):
    # The good state comes on top of one for each group, so there are fewer groups than there may be states.
    if not is_tuple_of(groups, 1, MOST_STATES - 1) or not all([are_some(group, COUNT_OF_MARKS) for group in groups]):
        raise NoWatcher("these are no groups of marks")
    states = [(0, steps_by(group, state)) for state, group in enumerate(groups)]
    return tuple(states) + ((1, states[0][STEPS]),)


def pair_of(ground, state, place):
    # A pair has its place's number, and as many more for each state ahead of its own as there are places.
    goals = [state[STEPS][ground[goal][MARK]] * len(ground) + goal for goal in place[GOALS]]
    return with_goals(place, sorted(goals))


def ground_of_pairs(ground, watcher):
    pairs = []
    for state in watcher:
        pairs.extend([pair_of(ground, state, place) for place in ground])
    return tuple(pairs)


def good_pairs(ground, watcher):
    count = len(ground)
    return tuple([pair for pair in range(count * len(watcher)) if watcher[pair // count][GOOD] == 1])


def by_states(told, count):
    return tuple([tuple(told[first:first + count]) for first in range(0, len(told), count)])


def watched(ground, watcher, who):
    if not is_watcher(watcher):
        raise NoWatcher("this is no watcher")
    count = len(ground)
    told = again(ground_of_pairs(ground, watcher), who, good_pairs(ground, watcher))
    pairs = by_states(told[0], count)
    moves = by_states([None if goal is None else goal % count for goal in told[1]], count)
    begun = watcher[0][STEPS]
    winners = tuple([pairs[begun[place[MARK]]][number] for number, place in enumerate(ground)])
    return (winners, pairs, moves)
