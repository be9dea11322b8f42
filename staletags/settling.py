"""Small webs, settled exactly: a table by which all rows are kept, or a plan by which each keeper falls."""

from staletags.keepers import by_table
from staletags.kinds import check_number, check_tags
from staletags.moves import clean_moves
from staletags.standings import begun, is_ask, is_standing
from staletags.walks import walked

MOST_SETTLED = 8


def settled(web, k):
    """("kept", table), or ("fallen", plan)."""
    check_tags(k)
    moves = clean_moves(web, k)
    plan = beating_asks(moves)
    if begun(web) in plan:
        # Only what the plan comes to, to keep it short.
        return "fallen", {standing: plan[standing] for standing in followed(web, moves, plan)}
    table = saving_tags(moves, plan)
    come = set(walked(by_table(table), web, k)[1])
    return "kept", {place: table[place] for place in table if place[0] in come}


def beating_asks(moves):
    """For each standing from which every keeper can be beaten, an ask that leads nearer to it.

    Backwards from the asks behind which nothing can come: an ask beats if all standings behind it are beaten.
    """
    ahead = {}
    unbeaten = {}
    beating = []
    for standing in moves:
        for ask, behind in moves[standing].items():
            unbeaten[(standing, ask)] = len(behind)
            if not behind:
                beating.append((standing, ask))
            for other in behind:
                ahead.setdefault(other, []).append((standing, ask))
    plan = {}
    at = 0
    while at < len(beating):
        standing, ask = beating[at]
        at += 1
        if standing not in plan:
            plan[standing] = ask
            for move in ahead.get(standing, []):
                unbeaten[move] -= 1
                if unbeaten[move] == 0:
                    beating.append(move)
    return plan


def saving_tags(moves, plan):
    """A table for all standings that the plan does not beat, each tag leading to another such."""
    table = {}
    for standing in moves:
        if standing not in plan:
            for ask, behind in moves[standing].items():
                if ask[0] == "give":
                    saving = [other for other in behind if other not in plan]
                    table[(standing, ask[1])] = saving[0][ask[1]][1][0]
    return table


def followed(web, moves, plan):
    """The moves of the standings that a plan comes to, by its asks alone; None if it lacks one of these."""
    chosen = {}
    waiting = [begun(web)]
    while waiting:
        standing = waiting.pop()
        if standing not in plan:
            return None
        if standing not in chosen:
            ask = plan[standing]
            chosen[standing] = {ask: moves[standing][ask]}
            waiting.extend(moves[standing][ask])
    return chosen


def is_plan(web, k, thing):
    """Whether a thing is a plan by which each keeper is beaten."""
    check_tags(k)
    moves = clean_moves(web, k)
    if not isinstance(thing, dict):
        return False
    if not all([is_standing(web, k, standing) and is_ask(web, standing, ask) for standing, ask in thing.items()]):
        return False
    chosen = followed(web, moves, thing)
    if chosen is None:
        return False
    # A run on which a standing comes twice is never beaten, so neither is begun then.
    return begun(web) in beating_asks(chosen)


def least_tags(web, most):
    """The least number of tags up to most for which there is a table, or None."""
    check_number(1, MOST_SETTLED, most)
    for k in range(1, most + 1):
        if settled(web, k)[0] == "kept":
            return k
    return None
