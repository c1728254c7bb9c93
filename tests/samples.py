"""Things that several tests hand in."""

ONE = ((0, 0, 0, (0,)),)
TWO = ((1, 12, -20, (0, 1)), (0, 3, 20, (0,)))
FOUR = (
    (0, 2, -7, (1, 3)),
    (1, 11, 0, (0, 1, 2, 3)),
    (1, 0, 10, (2,)),
    (0, 5, -12, (0, 2)),
)
# By marks 0 wins from 0 to 3, 1 from 4 and 5; each winner has no other moves that win, so they may be asked for.
SIX = (
    (0, 4, 0, (1,)),
    (1, 3, 0, (0, 2)),
    (0, 1, 0, (2, 3)),
    (0, 2, 0, (2,)),
    (1, 5, 0, (0, 5)),
    (0, 0, 0, (4,)),
)


def circle(count):
    return tuple((k % 2, k % 13, k - 12, ((k + 1) % count,)) for k in range(count))


def full(count):
    return tuple((k % 2, 12 - k % 13, 12 - k, tuple(range(count))) for k in range(count))


GROUNDS = (ONE, TWO, FOUR, circle(11), circle(24), full(2), full(24))

# Taking these apart takes 1,600 steps and more each, where a ground of 24 places drawn by chance takes some 6.
HARD = (
    (
        (1, 0, 0, (0, 3, 6)), (1, 4, 0, (4, 5, 17)), (1, 6, 0, (8, 12, 19)), (1, 8, 0, (4, 6, 15)),
        (0, 1, 0, (5, 15, 19)), (1, 0, 0, (4, 5, 9)), (0, 7, 0, (9, 22, 23)), (0, 1, 0, (7, 20, 22)),
        (0, 1, 0, (8, 11, 16)), (0, 0, 0, (9, 19, 23)), (0, 3, 0, (10, 11, 14)), (0, 11, 0, (1, 10, 21)),
        (0, 12, 0, (4, 7, 13)), (1, 2, 0, (7, 9, 13)), (1, 1, 0, (8, 14, 20)), (0, 5, 0, (4, 15)),
        (1, 7, 0, (0, 6, 9)), (1, 10, 0, (3, 4, 8)), (1, 10, 0, (10, 18, 19)), (1, 0, 0, (2, 19, 23)),
        (1, 2, 0, (4, 7, 20)), (0, 3, 0, (11, 18, 21)), (1, 3, 0, (1, 9)), (0, 3, 0, (10, 13, 19)),
    ),
    (
        (1, 4, 0, (0, 2, 6)), (0, 3, 0, (11, 20, 22)), (0, 5, 0, (5, 13, 16)), (0, 2, 0, (12, 19)),
        (1, 2, 0, (4, 14, 23)), (1, 10, 0, (6, 7, 23)), (0, 12, 0, (9, 15, 22)), (1, 1, 0, (7, 12, 21)),
        (1, 4, 0, (12, 13, 22)), (1, 7, 0, (4, 14)), (1, 6, 0, (10, 18, 21)), (1, 5, 0, (2, 3, 8)),
        (0, 1, 0, (9, 12, 17)), (1, 2, 0, (6, 10, 13)), (0, 0, 0, (14, 22)), (1, 7, 0, (0, 5, 21)),
        (0, 11, 0, (5, 7, 14)), (1, 9, 0, (11,)), (1, 3, 0, (10, 12, 22)), (0, 11, 0, (0, 21)), (1, 0, 0, (8, 20)),
        (0, 8, 0, (4, 7, 13)), (1, 0, 0, (1, 6, 22)), (0, 1, 0, (3, 15, 23)),
    ),
    (
        (0, 3, 0, (0, 1, 18)), (1, 10, 0, (6, 8, 17)), (0, 9, 0, (7, 14, 19)), (0, 9, 0, (5, 9, 16)),
        (1, 0, 0, (4, 7, 20)), (0, 3, 0, (2, 10, 16)), (1, 3, 0, (6, 10)), (1, 6, 0, (4, 12, 19)),
        (0, 3, 0, (8, 12, 19)), (0, 4, 0, (9, 15, 20)), (0, 1, 0, (10, 19)), (1, 12, 0, (19, 21, 22)),
        (0, 2, 0, (4, 21)), (0, 7, 0, (7, 21, 23)), (0, 4, 0, (13, 15, 21)), (1, 0, 0, (3, 15, 17)),
        (1, 8, 0, (6, 21)), (1, 10, 0, (0, 10, 11)), (0, 11, 0, (9, 12, 23)), (0, 5, 0, (4, 8, 22)),
        (1, 4, 0, (4, 5, 22)), (0, 1, 0, (6, 8, 22)), (1, 0, 0, (11, 21, 22)), (1, 0, 0, (7, 11, 23)),
    ),
)


def all_seeing(who, marks):
    return tuple((who, mark, 0, tuple(range(len(marks)))) for mark in marks)


def through_a_chain(who, marks, length):
    """Places that all lead to a chain of places, the last of which leads back to them all."""
    first = len(marks)
    chain = tuple((who, 0, 0, (first + k,)) for k in range(1, length))
    return tuple((who, mark, 0, (first,)) for mark in marks) + chain + ((who, 0, 0, tuple(range(first))),)


# The measures go through each of 15,625, of 12,800 and of 6,400 rows of counts, at several places.
HARD_TO_MEASURE = (
    all_seeing(0, (1, 3, 5, 7, 9, 11) * 4),
    all_seeing(0, (11, 9, 7, 5, 3, 1) * 3 + (5, 3, 1, 1, 1, 1)),
    through_a_chain(0, (1, 3, 5, 7, 9, 11) * 3 + (1, 3), 4),
)


def nested(depth, make):
    thing = make([])
    for _ in range(depth):
        thing = make([thing])
    return thing


def strangers():
    """Made anew at each call, for some are lists: what is none of the things, wherever it stands."""
    return [
        None, True, False, "", "0", "ground", "(0,)", -1000, 10 ** 30,
        [], [0], [[]], (None,), ("0",), (True,), (False,), ([],), ((),), ((0,),), (0, "0"),
        nested(30, list), nested(30, tuple), [nested(30, tuple)], (nested(30, list),),
    ]


def like_forms(thing):
    """What Python or a hasty eye may take for the thing: it is equal, or looks so, but is another."""
    if isinstance(thing, tuple):
        return [list(thing), (thing,), [thing], str(thing), "".join(str(part) for part in thing)]
    return [bool(thing), str(thing), (thing,), [thing]]


def replaced(thing, where, other):
    return thing[:where] + (other,) + thing[where + 1:]


def spoiled(thing):
    """The thing with itself or one part at any depth put out of its kind, one at a time."""
    yield from like_forms(thing)
    yield from [None, True, False, "", [], nested(30, list), nested(30, tuple)]
    if isinstance(thing, tuple):
        for where, part in enumerate(thing):
            for other in spoiled(part):
                yield replaced(thing, where, other)


def only_plain(case, thing):
    """What is told is made of tuples, whole numbers and None: no list, no truth, nothing that merely counts as one."""
    case.assertIn(type(thing), (tuple, int, type(None)))
    if isinstance(thing, tuple):
        for part in thing:
            only_plain(case, part)


def told_twice(case, tell, handed):
    """Asked again, and in another order, the same is told of each row of things that is handed in, and it stays so."""
    before = repr(handed)
    first = [tell(*row) for row in handed]
    case.assertEqual([tell(*row) for row in reversed(handed)], first[::-1])
    case.assertEqual(repr(handed), before)


def refused_with(case, kind, tell, *handed):
    """Just this refusal comes, not one below it, and what is handed in stays."""
    before = repr(handed)
    with case.assertRaises(kind, msg=before) as caught:
        tell(*handed)
    case.assertIs(type(caught.exception), kind)
    case.assertEqual(repr(handed), before)
