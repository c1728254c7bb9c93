"""Winning by marks: who wins is found by taking the ground apart."""

from duelground.parts import Share, all_places, moves_at, moves_of_both, staying_moves, winners_and_moves, without
from duelground.pulling import pulling_moves, ranked, ranks_to
from duelground.things import MARK


def share_by_marks(ground, inside):
    highest = max([ground[number][MARK] for number in inside])
    who = highest % 2
    other = 1 - who
    tops = [number for number in inside if ground[number][MARK] == highest]
    ranks = ranks_to(ground, inside, who, tops)
    below = winners_within(ground, without(inside, ranked(ranks)))
    lost = [number for number, winner in enumerate(below[0]) if winner == other]
    if len(lost) == 0:
        # The play comes to tops again and again, or stays where who wins without them.
        moves = moves_of_both(pulling_moves(ground, who, ranks), below[1])
        return Share(who, inside, moves_of_both(moves, staying_moves(ground, who, inside)))
    # Who can't get out of what the other one wins there, so the other one wins wherever it can force the play there.
    ranks = ranks_to(ground, inside, other, lost)
    moves = moves_of_both(pulling_moves(ground, other, ranks), moves_at(below[1], lost))
    return Share(other, ranked(ranks), moves)


def winners_within(ground, inside):
    shares = []
    left = inside
    while len(left) > 0:
        share = share_by_marks(ground, left)
        shares.append(share)
        left = without(left, share.places)
    return winners_and_moves(ground, shares)


def won(ground):
    return winners_within(ground, all_places(ground))
