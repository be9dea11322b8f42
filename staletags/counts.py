"""How many tags are enough, and how few are too few, told by counting."""

from staletags.kinds import check_number
from staletags.webs import check_sided, pieces, tied

MOST_HALF = 1000
MOST_RING_MEMORY = 1000


def rising(web, room):
    """As many tied rooms as can be put in a row such that the first remembers 0 or more, the next 1 or more .."""
    chosen = []
    # The least that fits first: a room that remembers more fits wherever one does that remembers less.
    for memory, other in sorted([(web.memories[other], other) for other in tied(web, room)]):
        if memory >= len(chosen):
            chosen.append(other)
    return chosen


def needs(web, room):
    """How many tags there must be for a room to be given always."""
    # tied raises NoRoom.
    others = rising(web, room)
    return web.memories[room] + 1 + len(others)


def all_needs(web):
    """The list of the needs of all rooms."""
    return [needs(web, room) for room in range(len(web.memories))]


def least_needed(web):
    """The number of tags with fewer than which every keeper is beaten."""
    return max(all_needs(web))


def neediest(web):
    """The least room with the greatest needs."""
    numbers = all_needs(web)
    return numbers.index(max(numbers))


def most_givings(web):
    """Within how many givings every keeper is beaten, if there are too few tags."""
    room = neediest(web)
    many = len(rising(web, room))
    return many * (many + 1) // 2 + web.memories[room] + 1


def least_enough(web):
    """The number of tags with which a keeper is known that is kept along all rows."""
    return max([piece_enough(web, rooms, lots) for rooms, lots in pieces(web)])


def piece_enough(web, rooms, lots):
    """The number of tags that are enough for a piece."""
    by_ties = enough_by_ties(web, rooms)
    if lots is None:
        return by_ties
    return min(by_ties, lot_tags(web, lots[0]) + lot_tags(web, lots[1]))


def enough_by_ties(web, rooms):
    """The greatest sum of a room's memory, 1 and how many are tied to it."""
    return max([web.memories[room] + 1 + len(tied(web, room)) for room in rooms])


def lot_tags(web, lot):
    """The greatest memory and 1 of a lot: so many tags of its own are enough for it."""
    return max([web.memories[room] + 1 for room in lot], default=0)


def sided_number(sizes, memory):
    """The least number of tags that is enough for a web of sides."""
    check_sided(sizes, memory)
    shown = [min(size, memory + 1) for size in sizes]
    # The side of the fewest rooms counts least: the lesser of size and memory + 1 rises with the size.
    return memory + 1 + sum(shown) - min(shown)


def ring_dyed(half, memory):
    """The least number of tags for which there is a dyeing of a ring of 2 half + 1 rooms."""
    check_number(1, MOST_HALF, half)
    check_number(0, MOST_RING_MEMORY, memory)
    return 2 * (memory + 1) + (memory + half) // half
