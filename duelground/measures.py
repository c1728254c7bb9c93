"""Winning by marks: who wins is found by measures that rise."""

from duelground.things import GOALS, MARK, WHO


def most_counts(ground):
    marks = [place[MARK] for place in ground]
    return tuple([marks.count(mark) for mark in range(max(marks), 0, -1) if mark % 2 == 1])


def beyond_all(ground):
    # No count comes up to this one, so it is greater than each row, the empty one too.
    return (len(ground) + 1,)


def filled(head, most):
    return head + tuple([0 for count in most[len(head):]])


def row_above(head, most, beyond):
    for where in range(len(head) - 1, -1, -1):
        if head[where] < most[where]:
            return filled(head[:where] + (head[where] + 1,), most)
    return beyond


def row_asked(place, measures, most, beyond):
    rows = [measures[goal] for goal in place[GOALS]]
    row = min(rows) if place[WHO] == 0 else max(rows)
    if row == beyond:
        return beyond
    # As many odd marks are lower than a mark as its half says; nothing is asked of their counts.
    head = row[:len(most) - place[MARK] // 2]
    if place[MARK] % 2 == 1:
        return row_above(head, most, beyond)
    return filled(head, most)


def risen(ground):
    most = most_counts(ground)
    beyond = beyond_all(ground)
    measures = [filled((), most) for place in ground]
    is_rising = True
    while is_rising:
        is_rising = False
        for number, place in enumerate(ground):
            row = row_asked(place, measures, most, beyond)
            if row > measures[number]:
                measures[number] = row
                is_rising = True
    return tuple(measures)


def by_measures(ground):
    beyond = beyond_all(ground)
    return tuple([1 if row == beyond else 0 for row in risen(ground)])
