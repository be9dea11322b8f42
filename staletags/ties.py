"""Ties that change: rooms that are held and clash by new ties, and how they are given anew."""

from itertools import combinations

from staletags.counts import enough_by_ties
from staletags.errors import TooFew, TooMany
from staletags.kinds import check_tags
from staletags.standings import barred, with_deed

MOST_CLASHING = 16


def clashes(web, standing):
    """The ascending list of the ties of held rooms that show one tag."""
    return [(one, other) for one, other in web.ties if clash(standing[one], standing[other])]


def clash(part, other):
    """Whether two rooms, told by their parts of a standing, are held and show one tag."""
    return part[0] and other[0] and part[1][0] == other[1][0]


def anew(web, standing):
    """The least of the lots of the fewest rooms without which no clash is left."""
    left = clashes(web, standing)
    rooms = [room for room in range(len(standing)) if any([room in tie for tie in left])]
    if len(rooms) > MOST_CLASHING:
        raise TooMany(MOST_CLASHING)
    for many in range(len(rooms)):
        # These come in ascending order, so the first one that fits is the least.
        for lot in combinations(rooms, many):
            if all([one in lot or other in lot for one, other in left]):
                return lot
    return ()


def given_anew(web, k, standing):
    """Deeds by which each room of anew is given back and given, behind which no clash is left."""
    check_tags(k)
    if k < enough_by_ties(web, list(range(len(web.memories)))):
        raise TooFew()
    deeds = []
    for room in anew(web, standing):
        standing = with_deed(web, standing, ("back", room))
        out = barred(web, standing, room)
        # Fewer than k tags are barred, so there is one.
        tag = min([tag for tag in range(k) if tag not in out])
        standing = with_deed(web, standing, ("give", room, tag))
        deeds.extend([("back", room), ("give", room, tag)])
    return tuple(deeds)
