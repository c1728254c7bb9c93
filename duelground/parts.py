"""Parts of a ground, moves on them, and the shares of the two players in it."""

from duelground.things import GOALS, WHO


# Places that who wins, and for those of them that belong to who the moves that win; None stands elsewhere.
class Share:
    def __init__(self, who, places, moves):
        self.who = who
        self.places = places
        self.moves = moves


def all_places(ground):
    return tuple(range(len(ground)))


def common(some, others):
    return tuple([number for number in some if number in others])


def without(some, others):
    return tuple([number for number in some if number not in others])


def is_whole_part(ground, inside):
    return all([len(common(ground[number][GOALS], inside)) > 0 for number in inside])


def no_moves(ground):
    return tuple([None for place in ground])


def moves_of_both(moves, others):
    return tuple([other if move is None else move for move, other in zip(moves, others)])


def moves_at(moves, places):
    return tuple([move if number in places else None for number, move in enumerate(moves)])


def staying_moves(ground, who, part):
    moves = list(no_moves(ground))
    for number in part:
        if ground[number][WHO] == who:
            moves[number] = common(ground[number][GOALS], part)[0]
    return tuple(moves)


def winners_and_moves(ground, shares):
    winners = [None for place in ground]
    moves = no_moves(ground)
    for share in shares:
        for number in share.places:
            winners[number] = share.who
        moves = moves_of_both(moves, share.moves)
    return (tuple(winners), moves)
