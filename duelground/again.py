"""Coming to some places again and again."""

from duelground.errors import NoPart
from duelground.parts import Share, all_places, common, moves_of_both, staying_moves, winners_and_moves, without
from duelground.pulling import pulling_moves, ranked, ranks_to
from duelground.things import are_some


def share_by_coming(ground, inside, who, goals):
    ranks = ranks_to(ground, inside, who, common(goals, inside))
    away = without(inside, ranked(ranks))
    if len(away) == 0:
        moves = moves_of_both(pulling_moves(ground, who, ranks), staying_moves(ground, who, inside))
        return Share(who, inside, moves)
    # There the other one keeps the play from goals, so it wins wherever it can force the play there.
    other = 1 - who
    ranks = ranks_to(ground, inside, other, away)
    moves = moves_of_both(pulling_moves(ground, other, ranks), staying_moves(ground, other, away))
    return Share(other, ranked(ranks), moves)


def again(ground, who, goals):
    if not are_some(goals, len(ground)):
        raise NoPart("goals are not some places")
    shares = []
    inside = all_places(ground)
    while len(inside) > 0:
        share = share_by_coming(ground, inside, who, goals)
        shares.append(share)
        inside = without(inside, share.places)
    return winners_and_moves(ground, shares)
