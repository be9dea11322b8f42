"""Walks of a steady keeper through all standings to which any rows lead it, and the tables that are right."""

from staletags.keepers import by_table, deed_of
from staletags.kinds import check_tags, is_between
from staletags.moves import MOST_STANDINGS, check_many, clean_moves, row_to
from staletags.standings import asks_at, begun, is_standing, with_deed
from staletags.webs import is_room


def walked(steady, web, k):
    """The standings that come by a steady keeper, or the least of the shortest rows along which it is not kept."""
    check_tags(k)
    start = begun(web)
    came = {start: None}
    level = [start]
    # Level by level, each in the order of its rows: so the first fall stands behind the least of the shortest rows.
    while level:
        check_many(came)
        following = []
        for standing in level:
            for ask in asks_at(standing):
                behind, word = steady_step(steady, web, k, standing, ask)
                if word != "kept":
                    return "falls", row_to(came, standing) + (ask,), word
                # One more than the most is enough to know that there are too many.
                if behind not in came and len(came) <= MOST_STANDINGS:
                    came[behind] = (standing, ask)
                    following.append(behind)
        level = following
    return "right", sorted(came)


def steady_step(steady, web, k, standing, ask):
    """The standing behind an ask, or None, and the word for what the steady keeper returned."""
    deed, word = ask, "kept"
    if ask[0] == "give":
        deed, word = deed_of(web, k, standing, ask, steady(web, k, standing, ask[1]))
    if word != "kept":
        return None, word
    return with_deed(web, standing, deed), word


def is_table(web, k, thing):
    """Whether a thing is a table by which a steady keeper is right."""
    check_tags(k)
    # For the error that it raises where the web is too large.
    clean_moves(web, k)
    if not isinstance(thing, dict):
        return False
    if not all([is_entry(web, k, place, tag) for place, tag in thing.items()]):
        return False
    return walked(by_table(thing), web, k)[0] == "right"


def is_entry(web, k, place, tag):
    """Whether these are a pair of a standing and a room, and a tag below k."""
    if not isinstance(place, tuple) or len(place) != 2:
        return False
    return is_standing(web, k, place[0]) and is_room(web, place[1]) and is_between(0, k - 1, tag)
