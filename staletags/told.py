"""Keepers that are told by counting, and kept along all rows."""

from staletags.counts import enough_by_ties, least_enough, lot_tags, sided_number
from staletags.errors import TooFew
from staletags.keepers import steadily
from staletags.kinds import check_tags
from staletags.standings import barred
from staletags.webs import check_sided, pieces, room_sides


def told_keeper(web, k):
    """A keeper that is kept along all rows of a web."""
    check_tags(k)
    if k < least_enough(web):
        raise TooFew()
    return steadily(by_orders(tag_orders(web, k)))


def tag_orders(web, k):
    """For each room, the tuple of all tags in the order in which a keeper tries them."""
    orders = [tuple(range(k)) for _ in web.memories]
    for rooms, lots in pieces(web):
        if enough_by_ties(web, rooms) > k:
            # Each lot keeps to tags of its own, so that tied rooms never bar one another's.
            own = lot_tags(web, lots[0])
            for room in lots[1]:
                orders[room] = tuple(range(own, k)) + tuple(range(own))
    return orders


def by_orders(orders):
    """The steady keeper that picks the first tag of a room's order that is not barred."""
    def steady(web, k, standing, room):
        return first_not_barred(orders[room], barred(web, standing, room))
    return steady


def first_not_barred(tags, out):
    """The first of some tags that is not out, or None."""
    for tag in tags:
        if tag not in out:
            return tag
    return None


def sided_keeper(sizes, memory, k):
    """A keeper that is kept along all rows of a web of sides."""
    check_sided(sizes, memory)
    check_tags(k)
    if k < sided_number(sizes, memory):
        raise TooFew()
    return steadily(by_sides(room_sides(sizes)))


def by_sides(sides):
    """The steady keeper that takes a tag that the room's own side shows already, if one is not barred.

    So a side never shows more tags than a room remembers, and one: of so many, one is not barred.
    """
    def steady(web, k, standing, room):
        own = [standing[other] for other in range(len(sides)) if sides[other] == sides[room]]
        shown = sorted([tags[0] for held, tags in own if held])
        return first_not_barred(shown + list(range(k)), barred(web, standing, room))
    return steady
