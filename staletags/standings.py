"""Standings of webs: which rooms are held, their last tags, and the deeds that change both."""

from staletags.errors import NoDeed
from staletags.kinds import check_tags, is_between, is_number
from staletags.webs import is_room, tied


def begun(web):
    """The standing in which all rooms are free, without tags."""
    return ((False, ()),) * len(web.memories)


def is_standing(web, k, thing):
    """Whether a thing has the form of a standing of the web, all its tags below k."""
    if not isinstance(thing, tuple) or len(thing) != len(web.memories):
        return False
    return all([is_room_standing(kept_tags(web, room), k, part) for room, part in enumerate(thing)])


def is_room_standing(most, k, thing):
    """Whether a thing is a flag and so many last tags at most, one at least if the flag is True."""
    if not isinstance(thing, tuple) or len(thing) != 2:
        return False
    held, tags = thing
    if not isinstance(held, bool) or not isinstance(tags, tuple) or len(tags) > most:
        return False
    if held and not tags:
        return False
    return all([is_between(0, k - 1, tag) for tag in tags])


def asks_at(standing):
    """The ascending list of the asks that can be done in a standing."""
    rooms = range(len(standing))
    backs = [("back", room) for room in rooms if standing[room][0]]
    gives = [("give", room) for room in rooms if not standing[room][0]]
    return backs + gives


def is_ask(web, standing, thing):
    """Whether a thing is an ask, to give a free room or to give back a held one."""
    if not isinstance(thing, tuple) or len(thing) != 2:
        return False
    word, room = thing
    # Asked first, as Python can be set to raise an error where bytes are compared with a string.
    if not isinstance(word, str) or not is_room(web, room):
        return False
    held = standing[room][0]
    return word == ("back" if held else "give")


def is_deed(web, standing, thing):
    """Whether a thing is a deed that can be done in the standing."""
    if not isinstance(thing, tuple) or not is_ask(web, standing, thing[:2]):
        return False
    if thing[0] == "back":
        return len(thing) == 2
    return len(thing) == 3 and is_number(thing[2])


def after(web, standing, deed):
    """The standing behind a deed."""
    if not is_deed(web, standing, deed):
        raise NoDeed()
    return with_deed(web, standing, deed)


def with_deed(web, standing, deed):
    """The standing behind a deed, which is not looked at again."""
    room = deed[1]
    tags = standing[room][1]
    if deed[0] == "give":
        tags = ((deed[2],) + tags)[:kept_tags(web, room)]
    return standing[:room] + ((deed[0] == "give", tags),) + standing[room + 1:]


def kept_tags(web, room):
    """How many of a room's last tags a standing holds at most."""
    # One more than it remembers if this is none: what a held room shows must be known.
    return max(1, web.memories[room])


def standing_of(web, past):
    """The standing behind a past."""
    held = [False for _ in web.memories]
    tags = [[] for _ in web.memories]
    # Not deed by deed through standings: a steady keeper asks for this at each giving.
    for deed in past:
        room = deed[1]
        held[room] = deed[0] == "give"
        if held[room]:
            tags[room].append(deed[2])
    return tuple([(held[room], newest(tags[room], kept_tags(web, room))) for room in range(len(held))])


def newest(tags, many):
    """The tuple of the last so many tags of a list, the last one first."""
    return tuple(tags[-many:][::-1])


def barred(web, standing, room):
    """The lot of the tags that a giving of the room must not have."""
    # tied raises NoRoom.
    shown = [standing[other][1][0] for other in tied(web, room) if standing[other][0]]
    own = list(standing[room][1][:web.memories[room]])
    return tuple(sorted(set(shown + own)))


def gives_barred(web, standing, deed):
    """Whether a deed gives a barred tag."""
    return deed[0] == "give" and deed[2] in barred(web, standing, deed[1])


def is_past(web, k, thing):
    """Whether a thing is a past with tags below k."""
    check_tags(k)
    if not isinstance(thing, tuple):
        return False
    standing = begun(web)
    for deed in thing:
        if not is_deed(web, standing, deed):
            return False
        if deed[0] == "give" and deed[2] >= k:
            return False
        standing = with_deed(web, standing, deed)
    return True


def first_barred(web, past):
    """The number of the first deed of a past that gives a barred tag, or None."""
    standing = begun(web)
    for at, deed in enumerate(past):
        if gives_barred(web, standing, deed):
            return at
        standing = with_deed(web, standing, deed)
    return None
