"""Things that several tests hand in."""

ONE = ((0, 0, 0, (0,)),)
TWO = ((1, 12, -20, (0, 1)), (0, 3, 20, (0,)))
FOUR = (
    (0, 2, -7, (1, 3)),
    (1, 11, 0, (0, 1, 2, 3)),
    (1, 0, 10, (2,)),
    (0, 5, -12, (0, 2)),
)


def circle(count):
    return tuple((k % 2, k % 13, k - 12, ((k + 1) % count,)) for k in range(count))


def full(count):
    return tuple((k % 2, 12 - k % 13, 12 - k, tuple(range(count))) for k in range(count))


GROUNDS = (ONE, TWO, FOUR, circle(11), circle(24), full(2), full(24))


def nested(depth, make):
    thing = make([])
    for _ in range(depth):
        thing = make([thing])
    return thing


def strangers():
    """Made anew at each call, for some are lists: what is none of the things, wherever it stands."""
    return [
        None, True, False, "", "0", "ground", "(0,)", -1000, 10 ** 30,
        [], [0], [[]], (None,), ("0",), (True,), (False,), ([],), ((),), ((0,),), (0, "0"),
        nested(30, list), nested(30, tuple), [nested(30, tuple)], (nested(30, list),),
    ]


def like_forms(thing):
    """What Python or a hasty eye may take for the thing: it is equal, or looks so, but is another."""
    if isinstance(thing, tuple):
        return [list(thing), (thing,), [thing], str(thing), "".join(str(part) for part in thing)]
    return [bool(thing), str(thing), (thing,), [thing]]


def replaced(thing, where, other):
    return thing[:where] + (other,) + thing[where + 1:]


def spoiled(thing):
    """The thing with itself or one part at any depth put out of its kind, one at a time."""
    yield from like_forms(thing)
    yield from [None, True, False, "", [], nested(30, list), nested(30, tuple)]
    if isinstance(thing, tuple):
        for where, part in enumerate(thing):
            for other in spoiled(part):
                yield replaced(thing, where, other)
