"""Keepers: functions that pick the tags, led along rows of asks."""

from staletags.errors import NoRow
from staletags.kinds import check_tags, is_between
from staletags.standings import begun, gives_barred, is_ask, standing_of, with_deed


def is_row(web, thing):
    """Whether a thing is a row of asks."""
    return isinstance(thing, (list, tuple)) and first_no_ask(web, thing) is None


def check_row(web, row):
    """Raise NoRow unless this is a row of asks."""
    if not isinstance(row, (list, tuple)):
        raise NoRow(-1)
    at = first_no_ask(web, row)
    if at is not None:
        raise NoRow(at)


def first_no_ask(web, things):
    """The number of the first of some things that is no ask behind those ahead of it, or None."""
    standing = begun(web)
    for at, thing in enumerate(things):
        if not is_ask(web, standing, thing):
            return at
        # Which rooms are held doesn't hang on the tags, so any one will do.
        standing = with_deed(web, standing, thing + (0,))
    return None


def led(keeper, web, k, row):
    """The past, and a word of how it ended, when a keeper is led along a row."""
    check_tags(k)
    check_row(web, row)
    past = ()
    standing = begun(web)
    # A copy, as the keeper may be one that changes the row itself.
    for ask in tuple(row):
        past, standing, word = led_on(keeper, web, k, past, standing, ask)
        if word != "kept":
            return past, word
    return past, "kept"


def led_on(keeper, web, k, past, standing, ask):
    """The past and the standing behind one more ask, and the word for what the keeper returned."""
    deed, word = ask, "kept"
    if ask[0] == "give":
        deed, word = deed_of(web, k, standing, ask, keeper(web, k, past, ask[1]))
    if deed is None:
        return past, standing, word
    return past + (deed,), with_deed(web, standing, deed), word


def deed_of(web, k, standing, ask, tag):
    """The deed that is done for an ask to give, or None, and the word for what a keeper returned as its tag."""
    if tag is None:
        return None, "stuck"
    if not is_between(0, k - 1, tag):
        return None, "odd"
    deed = ask + (tag,)
    word = "barred" if gives_barred(web, standing, deed) else "kept"
    return deed, word


def steadily(steady):
    """The keeper that calls a steady one."""
    def keeper(web, k, past, room):
        return steady(web, k, standing_of(web, past), room)
    return keeper


def by_table(table):
    """The steady keeper that goes by a table from pairs of a standing and a room to tags."""
    # A copy, so that it answers the same when the table has been changed.
    tags = {place: table[place] for place in table}

    def steady(web, k, standing, room):
        return tags.get((standing, room))
    return steady
