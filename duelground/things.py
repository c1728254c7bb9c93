"""What a place, a ground, some places and moves are."""

MOST_PLACES = 24
MOST_MARK = 12
MOST_GAIN = 20

# Where each part stands in a place.
WHO = 0
MARK = 1
GAIN = 2
GOALS = 3
PARTS = 4


def is_whole(thing):
    # A truth is an int to Python, and equal to 0 or 1.
    return isinstance(thing, int) and not isinstance(thing, bool)


def is_between(thing, low, high):
    return is_whole(thing) and low <= thing <= high


def are_some(thing, count):
    if not isinstance(thing, tuple):
        return False
    least = 0
    for number in thing:
        # A least that rises with each number asks for rising and for none twice at once.
        if not is_between(number, least, count - 1):
            return False
        least = number + 1
    return True


def are_goals(thing, count):
    return are_some(thing, count) and 1 <= len(thing) <= MOST_PLACES


def is_place(thing, count):
    if not isinstance(thing, tuple) or len(thing) != PARTS:
        return False
    if not is_between(thing[WHO], 0, 1) or not is_between(thing[MARK], 0, MOST_MARK):
        return False
    return is_between(thing[GAIN], -MOST_GAIN, MOST_GAIN) and are_goals(thing[GOALS], count)


def is_ground(thing):
    if not isinstance(thing, tuple) or not 1 <= len(thing) <= MOST_PLACES:
        return False
    return all([is_place(place, len(thing)) for place in thing])


def is_move(thing, place):
    # Python finds True among goals that hold 1, so it is first asked for a number.
    return thing is None or (is_whole(thing) and thing in place[GOALS])


def are_moves(thing, ground):
    if not isinstance(thing, tuple) or len(thing) != len(ground):
        return False
    return all([is_move(move, place) for move, place in zip(thing, ground)])
