"""Keepers that do not see the other rooms, and the dyeings by which they are kept."""

from staletags.errors import TooMany
from staletags.keepers import led_on
from staletags.kinds import MOST_TAGS, check_number, check_tags, is_between
from staletags.lots import found_dyeing
from staletags.standings import begun

MOST_DYED = 24
MOST_BLIND = 60


def blindly(unseeing):
    """The keeper that calls an unseeing one."""
    def keeper(web, k, past, room):
        return unseeing(web, k, room, tuple([deed[2] for deed in past if deed[:2] == ("give", room)]))
    return keeper


def in_turn(dyeing):
    """The unseeing keeper that gives each room its tags in turn."""
    def unseeing(web, k, room, tags):
        return dyeing[room][len(tags) % len(dyeing[room])]
    return unseeing


def is_dyeing(web, k, thing):
    """Whether a thing is a dyeing of the web with tags below k."""
    check_tags(k)
    if not isinstance(thing, tuple) or len(thing) != len(web.memories):
        return False
    if not all([is_dye(web.memories[room] + 1, k, lot) for room, lot in enumerate(thing)]):
        return False
    return all([tag not in thing[other] for one, other in web.ties for tag in thing[one]])


def is_dye(many, k, thing):
    """Whether a thing is a lot of so many tags below k."""
    if not isinstance(thing, tuple) or len(thing) != many:
        return False
    if not all([is_between(0, k - 1, tag) for tag in thing]):
        return False
    return all([thing[at] < thing[at + 1] for at in range(many - 1)])


def check_few(web):
    """Raise TooMany if dyeings of the web are too large to be looked for."""
    if sum(web.memories) + len(web.memories) > MOST_DYED:
        raise TooMany(MOST_DYED)


def dyeing(web, k):
    """A dyeing of the web with tags below k, or None."""
    check_tags(k)
    check_few(web)
    return found_dyeing(web, k)


def least_dyed(web, most):
    """The least number of tags up to most for which there is a dyeing, or None."""
    check_number(1, MOST_TAGS, most)
    check_few(web)
    for k in range(1, most + 1):
        if found_dyeing(web, k) is not None:
            return k
    return None


def blind_row(unseeing, web, k, many):
    """A row along which an unseeing keeper is not kept, within its first so many givings of each room, or None."""
    check_tags(k)
    check_number(1, MOST_BLIND, many)
    told = []
    for room in range(len(web.memories)):
        tags, word = first_tags(unseeing, web, k, room, many)
        if word != "kept":
            return again_and_again(room, len(tags) + 1)
        told.append(tags)
    for one, other in web.ties:
        for at, tag in enumerate(told[one]):
            if tag in told[other]:
                return again_and_again(one, at + 1) + again_and_again(other, told[other].index(tag) + 1)
    return None


def first_tags(unseeing, web, k, room, many):
    """The tags of a room's first so many givings, up to one at which the keeper falls, and the word for this."""
    keeper = blindly(unseeing)
    past = ()
    standing = begun(web)
    tags = ()
    for _ in range(many):
        past, standing, word = led_on(keeper, web, k, past, standing, ("give", room))
        if word != "kept":
            return tags, word
        tags = tags + (past[-1][2],)
        past, standing, _ = led_on(keeper, web, k, past, standing, ("back", room))
    return tags, "kept"


def again_and_again(room, givings):
    """The row of so many givings of a room, which is given back between them."""
    return (("give", room), ("back", room)) * (givings - 1) + (("give", room),)
