"""Credit: the least one with which 0 never runs out."""

from duelground.things import GAIN, GOALS, WHO


def most_needed(ground):
    # Where a credit is enough, 0 has moves by the place alone that leave no ring which loses. Then no play loses more
    # than on a way that comes to each place once at most.
    return sum([max(0, -place[GAIN]) for place in ground])


def credit_asked(place, needed, most):
    asked = [needed[goal] for goal in place[GOALS]]
    ahead = min(asked) if place[WHO] == 0 else max(asked)
    # More than most stands for no credit being enough, and a gain on the way there does not mend that.
    if ahead > most:
        return ahead
    return min(most + 1, max(0, ahead - place[GAIN]))


def needed_credits(ground, most):
    needed = None
    asked = [0 for place in ground]
    while asked != needed:
        needed = asked
        asked = [credit_asked(place, needed, most) for place in ground]
    return needed


def cheapest_goal(place, needed):
    # Of several goals with the least credit, min takes the first one, and goals rise.
    return min(place[GOALS], key=lambda goal: needed[goal])


def least_credits(ground):
    most = most_needed(ground)
    needed = needed_credits(ground, most)
    least = tuple([None if credit > most else credit for credit in needed])
    moves = tuple([cheapest_goal(place, needed) if place[WHO] == 0 else None for place in ground])
    return (least, moves)
