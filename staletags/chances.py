"""Runs with drawn tags, and the chances of what comes of them."""

from math import gcd

from staletags.errors import NoWay, TooMany
from staletags.kinds import check_number, check_size, check_tags
from staletags.rooms import TaggedRooms
from staletags.runs import told_run
from staletags.standings import barred
from staletags.steps import Weave, room_to_give

MOST_DRAWN_RUN = 500
MOST_ROWS = 5000
WAYS = ("free", "any")


class DrawnRooms(TaggedRooms):
    """Rooms with tags that are drawn: the next one is told ahead of each giving, None where none can be drawn."""

    def __init__(self, web, k, size):
        super().__init__(web, k, None, size)
        self.drawn = None

    def twin(self):
        """Equal rooms that go on apart."""
        other = DrawnRooms(self.web, self.k, self.size)
        self.tell(other)
        return other

    def pick(self, room):
        """The tag that was drawn, and the word for it."""
        return self.drawn, "stuck" if self.drawn is None else "kept"


def check_way(way):
    """Raise NoWay unless this is a way of drawing tags."""
    # Asked first, as Python can be set to raise an error where bytes are compared with a string.
    if not isinstance(way, str) or way not in WAYS:
        raise NoWay()


def chances(program, web, k, way, size, most):
    """The dict from all results that can come of a run with drawn tags to their chances."""
    check_tags(k)
    check_way(way)
    check_size(size)
    check_number(0, MOST_DRAWN_RUN, most)
    told = {}
    ended = 0
    # Each weave behind one row of tags, with how many equal chances there are at all draws of the row together.
    waiting = [(Weave((program,), DrawnRooms(web, k, size)), 1)]
    while waiting:
        following = []
        for weave, bottom in waiting:
            tags = run_to_choice(weave, way, most)
            if tags:
                following.extend(drawn_on(weave, tags, bottom))
            else:
                result = told_run(weave)
                told[result] = added(told.get(result, (0, 1)), (1, bottom))
                ended += 1
            if ended + len(following) > MOST_ROWS:
                raise TooMany(MOST_ROWS)
        waiting = following
    return told


def run_to_choice(weave, way, most):
    """Go on to a giving for which several tags can be drawn, and tell these; the empty list at the end of the run."""
    while weave.can_come(0) and weave.place < most:
        tags = tags_to_draw(weave, way)
        if len(tags) > 1:
            return tags
        come_with(weave, tags[0] if tags else None)
    return []


def come_with(weave, tag):
    """Do the next statement; a room that it gives gets this tag, or its hand is stuck if this is None."""
    rooms = weave.rooms
    rooms.drawn = tag
    weave.come(0)


def tags_to_draw(weave, way):
    """The list of the tags that can be drawn for the next statement, empty if it gives no room."""
    statement = weave.hands[0].statement()
    if statement[0] not in ("give", "take"):
        return []
    room, _ = room_to_give(weave.rooms, statement)
    if room is None:
        return []
    out = barred(weave.rooms.web, weave.rooms.now, room) if way == "free" else ()
    return [tag for tag in range(weave.rooms.k) if tag not in out]


def drawn_on(weave, tags, bottom):
    """The weaves behind the next giving, one for each tag, each beside how many equal chances there are then."""
    following = []
    for tag in tags:
        behind = weave.twin()
        come_with(behind, tag)
        following.append((behind, bottom * len(tags)))
    return following


def added(one, other):
    """The sum of two fractions, in lowest terms."""
    top = one[0] * other[1] + other[0] * one[1]
    bottom = one[1] * other[1]
    shared = gcd(top, bottom)
    return top // shared, bottom // shared


def let_chance(program, web, k, way, size, most):
    """The chance that a slip is let at all, when tags are drawn."""
    total = (0, 1)
    told = chances(program, web, k, way, size, most)
    for result, chance in told.items():
        if result[2]:
            total = added(total, chance)
    return total
