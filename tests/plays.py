"""What the games' tests share: grounds drawn by seed, and judging of told moves by going round."""

import itertools
import random


def drawn(chance, count, most_goals, most_mark=12):
    places = []
    for _ in range(count):
        goals = chance.sample(range(count), chance.randint(1, min(count, most_goals)))
        places.append((chance.randint(0, 1), chance.randint(0, most_mark), chance.randint(-20, 20),
                       tuple(sorted(goals))))
    return tuple(places)


def drawn_grounds(seed, how_many, most_count, most_goals, most_mark=12):
    chance = random.Random(seed)
    return [drawn(chance, chance.randint(1, most_count), most_goals, most_mark) for _ in range(how_many)]


def drawn_some(chance, among):
    return tuple(number for number in among if chance.randint(0, 1))


def drawn_most(chance, among):
    """All but one or a few."""
    left_out = chance.sample(among, min(len(among), chance.randint(1, 3)))
    return tuple(number for number in among if number not in left_out)


def lessened(part, is_left):
    """The part less those of its places that can't stay in what is left of it, until there are none of these."""
    while True:
        fewer = tuple(number for number in part if is_left(number, part))
        if fewer == part:
            return part
        part = fewer


def drawn_whole_part(chance, ground):
    part = drawn_some(chance, range(len(ground)))
    return lessened(part, lambda number, left: set(ground[number][3]) & set(left))


def part_kept(ground, who, part):
    """The greatest part of some places that who can keep the play in: the other one's places lead only into it."""
    def is_left(number, left):
        ways = [goal in left for goal in ground[number][3]]
        return any(ways) if ground[number][0] == who else all(ways)

    return lessened(part, is_left)


def part_of_winner(winners, who):
    return tuple(number for number, winner in enumerate(winners) if winner == who)


def exchanged_by_hand(ground):
    """Each place belongs to the other one and each mark is 1 more."""
    return tuple((1 - who, mark + 1, gain, goals) for who, mark, gain, goals in ground)


def all_some(among):
    for length in range(len(among) + 1):
        yield from itertools.combinations(among, length)


def plans(ground, inside, who):
    """All ways in which who can choose within inside, by the place alone."""
    choices = [
        [goal for goal in place[3] if goal in inside] if place[0] == who and number in inside else [None]
        for number, place in enumerate(ground)
    ]
    return itertools.product(*choices)


def drawn_moves(chance, ground):
    """A move for each place, whoever has it."""
    return tuple(chance.choice(place[3]) for place in ground)


def ways_on(ground, who, moves, number):
    """Where the play may go on from a place while who goes by the moves and the other one as it likes."""
    if ground[number][0] == who:
        return (moves[number],)
    return ground[number][3]


def edges_from(ground, inside, who, moves, start):
    """Where the play may go on from each place that it may come to from start, start too, within inside."""
    edges = {}
    left = [start]
    while left:
        number = left.pop()
        edges[number] = [goal for goal in ways_on(ground, who, moves, number) if goal in inside]
        left += [goal for goal in edges[number] if goal not in edges]
    return edges


def come_to(edges, number, allowed):
    """The places that are come to by one step or more from a place, all of them allowed ones."""
    seen = set()
    left = [number]
    while left:
        for goal in edges[left.pop()]:
            if goal in allowed and goal not in seen:
                seen.add(goal)
                left.append(goal)
    return seen


def has_ring_through(edges, number, allowed):
    return number in allowed and number in come_to(edges, number, allowed)


def rings_from(edges, way):
    """All rings that close at the first place of a way and go on by it, no place twice and none less than the first."""
    for goal in edges[way[-1]]:
        if goal == way[0]:
            yield way
        elif goal > way[0] and goal not in way:
            yield from rings_from(edges, way + (goal,))


def all_rings(edges):
    """Each ring once, from its least place on."""
    for number in edges:
        yield from rings_from(edges, (number,))


def edges_by(ground, who, places, moves):
    return {number: ways_on(ground, who, moves, number) for number in places}


def stays(edges):
    return all(goal in edges for goals in edges.values() for goal in goals)


def edges_of_both(case, ground, answer):
    """For each player where the play may go on among its places, once it is sure that moves stand where they are to."""
    winners, moves = answer
    case.assertEqual((len(winners), len(moves)), (len(ground), len(ground)))
    for number, place in enumerate(ground):
        case.assertIn(winners[number], (0, 1))
        if winners[number] == place[0]:
            case.assertIn(moves[number], place[3])
        else:
            case.assertIsNone(moves[number])
    both = []
    for player in (0, 1):
        part = [number for number in range(len(ground)) if winners[number] == player]
        both.append(edges_by(ground, player, part, moves))
        case.assertTrue(stays(both[player]), (ground, answer))
    return both


def lost_by_marks(ground, who, edges):
    """Whether there is a ring whose highest mark is one that who does not win by."""
    for number in edges:
        mark = ground[number][1]
        lower = {other for other in edges if ground[other][1] <= mark}
        if mark % 2 != who and has_ring_through(edges, number, lower):
            return True
    return False


def ring_through_goals(edges, goals):
    return any(has_ring_through(edges, number, set(edges)) for number in goals)


def ring_beside_goals(edges, goals):
    beside = set(edges) - set(goals)
    return any(has_ring_through(edges, number, beside) for number in beside)
