"""All standings of a small web that come by clean givings, and what can come next behind each."""

from staletags.errors import TooMany
from staletags.standings import asks_at, barred, begun, with_deed

MOST_STANDINGS = 3000


def check_many(came):
    """Raise TooMany if more came than are looked at."""
    if len(came) > MOST_STANDINGS:
        raise TooMany(MOST_STANDINGS)


def clean_moves(web, k):
    """For each standing that comes by tags that are not barred, a dict from its asks to the standings behind."""
    start = begun(web)
    came = {start: True}
    waiting = [start]
    moves = {}
    while waiting:
        standing = waiting.pop()
        moves[standing] = {ask: ways_on(web, k, standing, ask) for ask in asks_at(standing)}
        for ask in moves[standing]:
            for behind in moves[standing][ask]:
                if behind not in came:
                    came[behind] = True
                    waiting.append(behind)
        check_many(came)
    return moves


def ways_on(web, k, standing, ask):
    """The standings that can be there behind an ask, one for each tag that is not barred."""
    if ask[0] == "back":
        return [with_deed(web, standing, ask)]
    out = barred(web, standing, ask[1])
    return [with_deed(web, standing, ask + (tag,)) for tag in range(k) if tag not in out]


def row_to(came, state):
    """The row that leads to a state, by a dict from each one to the pair of the one ahead of it and the ask."""
    asks = []
    while came[state] is not None:
        state, ask = came[state]
        asks.append(ask)
    return tuple(asks[::-1])
