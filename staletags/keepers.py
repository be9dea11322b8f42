"""Keepers: functions that pick the tags, led along rows of asks."""

from staletags.errors import NoRow
from staletags.kinds import check_tags, is_between
from staletags.standings import begun, gives_barred, is_ask, standing_of, with_deed


def is_row(web, thing):
    """Whether a thing is a row of asks."""
    return isinstance(thing, (list, tuple)) and first_no_ask(web, thing) is None


def check_row(web, row):
    """Raise NoRow unless this is a row of asks."""
    if not isinstance(row, (list, tuple)):
        raise NoRow(-1)
    at = first_no_ask(web, row)
    if at is not None:
        raise NoRow(at)


def first_no_ask(web, things):
    """The number of the first of some things that is no ask behind those ahead of it, or None."""
    standing = begun(web)
    for at, thing in enumerate(things):
        if not is_ask(web, standing, thing):
            return at
        # Which rooms are held doesn't hang on the tags, so any one will do.
        standing = with_deed(web, standing, thing + (0,))
    return None


def led(keeper, web, k, row):
    """The past, and a word of how it ended, when a keeper is led along a row."""
    check_tags(k)
    check_row(web, row)
    past = ()
    standing = begun(web)
    # A copy, as the keeper may be one that changes the row itself.
    for ask in tuple(row):
        deed, word = answered(keeper, web, k, past, standing, ask)
        if deed is not None:
            past = past + (deed,)
        if word != "kept":
            return past, word
        standing = with_deed(web, standing, deed)
    return past, "kept"


def answered(keeper, web, k, past, standing, ask):
    """The deed that is done for an ask, or None, and the word for what the keeper returned."""
    if ask[0] == "back":
        return ask, "kept"
    tag = keeper(web, k, past, ask[1])
    if tag is None:
        return None, "stuck"
    if not is_between(0, k - 1, tag):
        return None, "odd"
    deed = ask + (tag,)
    word = "barred" if gives_barred(web, standing, deed) else "kept"
    return deed, word


def steadily(steady):
    """The keeper that calls a steady one."""
    def keeper(web, k, past, room):
        return steady(web, k, standing_of(web, past), room)
    return keeper


def by_table(table):
    """The steady keeper that goes by a table from pairs of a standing and a room to tags."""
    # A copy, so that it answers the same when the table has been changed.
    tags = {place: table[place] for place in table}

    def steady(web, k, standing, room):
        return tags.get((standing, room))
    return steady
