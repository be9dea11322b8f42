"""Webs of rooms, the makers of regular ones, and their two lots or odd rings."""

from staletags.errors import BadWeb, NoNumber, NoRoom
from staletags.kinds import check_number, is_between

MOST_ROOMS = 60
MOST_MEMORY = 30
MOST_SIDES = 8


class Web:
    """Rooms, each with its memory, and the ties between them."""

    def __init__(self, memories, ties):
        check_memories(memories)
        check_ties(len(memories), ties)
        self.memories = memories
        self.ties = ties
        # Kept because the tied rooms are asked for at each giving.
        self.near = near_lots(len(memories), ties)

    def __eq__(self, other):
        return isinstance(other, Web) and self.memories == other.memories and self.ties == other.ties


def check_memories(memories):
    """Raise BadWeb unless these are the memories of a web."""
    if not isinstance(memories, tuple) or not is_between(1, MOST_ROOMS, len(memories)):
        raise BadWeb("memories")
    if not all([is_between(0, MOST_MEMORY, memory) for memory in memories]):
        raise BadWeb("memories")


def check_ties(many, ties):
    """Raise BadWeb unless these are the ties of a web of so many rooms."""
    if not isinstance(ties, tuple):
        raise BadWeb("ties")
    for at, tie in enumerate(ties):
        if not is_tie(many, tie):
            raise BadWeb(at)
        if at > 0 and tie <= ties[at - 1]:
            raise BadWeb(at)


def is_tie(many, thing):
    """Whether a thing is a pair of rooms out of so many, the lesser one first."""
    if not isinstance(thing, tuple) or len(thing) != 2:
        return False
    if not all([is_between(0, many - 1, room) for room in thing]):
        return False
    return thing[0] < thing[1]


def near_lots(many, ties):
    """For each of so many rooms, the lot of the rooms tied to it."""
    near = [[] for _ in range(many)]
    # Ties ascend, so each of these lists does.
    for one, other in ties:
        near[one].append(other)
        near[other].append(one)
    return tuple([tuple(rooms) for rooms in near])


def is_room(web, thing):
    """Whether a thing is a room of the web."""
    return is_between(0, len(web.memories) - 1, thing)


def check_room(web, room):
    """Raise NoRoom unless this is a room of the web."""
    if not is_room(web, room):
        raise NoRoom()


def tied(web, room):
    """The lot of the rooms that are tied to a room."""
    check_room(web, room)
    return web.near[room]


def row_web(many, memory):
    """The web of a row of rooms, each tied to the next one."""
    check_number(1, MOST_ROOMS, many)
    check_number(0, MOST_MEMORY, memory)
    return Web((memory,) * many, tuple(row_ties(many)))


def ring_web(many, memory):
    """The web of a ring of rooms: a row, the last one tied to the first one, too."""
    check_number(3, MOST_ROOMS, many)
    check_number(0, MOST_MEMORY, memory)
    return Web((memory,) * many, tuple(sorted(row_ties(many) + [(0, many - 1)])))


def row_ties(many):
    """The ties of a row of so many rooms."""
    return [(room, room + 1) for room in range(many - 1)]


def grid_web(wide, high, memory):
    """The web of a grid of rooms, numbered row by row, tied beside and below one another."""
    check_number(1, MOST_ROOMS, wide)
    check_number(1, MOST_ROOMS // wide, high)
    check_number(0, MOST_MEMORY, memory)
    many = wide * high
    beside = [(room, room + 1) for room in range(many) if (room + 1) % wide != 0]
    below = [(room, room + wide) for room in range(many - wide)]
    return Web((memory,) * many, tuple(sorted(beside + below)))


def sided_web(sizes, memory):
    """The web of sides of so many rooms each: rooms are tied just if they are of unlike sides."""
    check_sided(sizes, memory)
    sides = room_sides(sizes)
    rooms = range(len(sides))
    ties = [(one, other) for one in rooms for other in rooms if one < other and sides[one] != sides[other]]
    return Web((memory,) * len(sides), tuple(ties))


def room_sides(sizes):
    """For each room, the number of its side."""
    return [side for side, size in enumerate(sizes) for _ in range(size)]


def check_sided(sizes, memory):
    """Raise NoNumber unless these are the sizes of the sides, and the memory, of a web."""
    check_sizes(sizes)
    check_number(0, MOST_MEMORY, memory)


def check_sizes(sizes):
    """Raise NoNumber unless these are the sizes of the sides of a web."""
    if not isinstance(sizes, tuple) or not is_between(1, MOST_SIDES, len(sizes)):
        raise NoNumber()
    if not all([is_between(1, MOST_ROOMS, size) for size in sizes]):
        raise NoNumber()
    check_number(1, MOST_ROOMS, sum(sizes))


def two_lots(web):
    """Two lots of all rooms together, none tied within one lot, or None.

    The least room of each piece lies in the first lot.
    """
    depths, _ = search_trees(web)
    if tie_within_depth(web, depths) is not None:
        return None
    return lots_by_depth(list(range(len(depths))), depths)


def pieces(web):
    """For each piece, the pair of the lot of its rooms and of its two lots, or None for these."""
    depths, parents = search_trees(web)
    rooms = {}
    for room in range(len(depths)):
        rooms.setdefault(root_of(parents, room), []).append(room)
    odd = {root_of(parents, one): True for one, other in web.ties if depths[one] == depths[other]}
    return [(tuple(rooms[root]), None if root in odd else lots_by_depth(rooms[root], depths)) for root in rooms]


def root_of(parents, room):
    """The root of the tree that a room stands in."""
    while parents[room] is not None:
        room = parents[room]
    return room


def lots_by_depth(rooms, depths):
    """The pair of the lots of those of some rooms that are of even and of odd depth."""
    first = tuple([room for room in rooms if depths[room] % 2 == 0])
    second = tuple([room for room in rooms if depths[room] % 2 == 1])
    return first, second


def odd_ring(web):
    """An odd number of unlike rooms, each tied to the next and the last to the first, or None."""
    depths, parents = search_trees(web)
    tie = tie_within_depth(web, depths)
    if tie is None:
        return None
    one, other = tie
    left = [one]
    right = [other]
    while left[-1] != right[-1]:
        left.append(parents[left[-1]])
        right.append(parents[right[-1]])
    # Both ways end in the one room where they meet: it stands in the ring once.
    return tuple(left + right[-2::-1])


def is_odd_ring(web, thing):
    """Whether a thing is an odd ring of the web."""
    if not isinstance(thing, tuple) or len(thing) < 3 or len(thing) % 2 == 0:
        return False
    if not all([is_room(web, room) for room in thing]):
        return False
    if len(set(thing)) < len(thing):
        return False
    return all([thing[at - 1] in web.near[room] for at, room in enumerate(thing)])


def search_trees(web):
    """The depth and the parent of each room in trees that are grown, breadth first, one in each piece.

    The root of each tree is the least room of its piece.
    """
    depths = [None for _ in web.memories]
    parents = [None for _ in web.memories]
    for root in range(len(depths)):
        if depths[root] is None:
            depths[root] = 0
            grow_tree(web, root, depths, parents)
    return depths, parents


def grow_tree(web, root, depths, parents):
    """Write down the depths and parents of all rooms of the piece of a root."""
    reached = [root]
    at = 0
    while at < len(reached):
        room = reached[at]
        for other in web.near[room]:
            if depths[other] is None:
                depths[other] = depths[room] + 1
                parents[other] = room
                reached.append(other)
        at += 1


def tie_within_depth(web, depths):
    """The first tie of two rooms of one depth, or None.

    Tied rooms differ by one in depth at most, so there is such a tie just if two lots are not there.
    """
    for one, other in web.ties:
        if depths[one] == depths[other]:
            return one, other
    return None
