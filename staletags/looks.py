"""Looks through handles: which of them are slips, and by which clause these are found always."""

from staletags.errors import NoGiving, NoNear, NoPast
from staletags.kinds import MOST_TAGS, is_between
from staletags.standings import is_past, standing_of
from staletags.webs import is_room, tied


def slip_of(web, past, giving, room):
    """The slip that a look through the handle of a giving at a room is, or None."""
    if not is_past(web, MOST_TAGS, past):
        raise NoPast()
    rooms = [deed[1] for deed in past if deed[0] == "give"]
    if not is_between(0, len(rooms) - 1, giving):
        raise NoGiving()
    own = rooms[giving]
    check_near(web, own, room)
    return told_slip(own, room, standing_of(web, past)[room][0], rooms[giving + 1:].count(own))


def check_near(web, own, room):
    """Raise NoNear unless this is a handle's own room or one that is tied to it."""
    if not is_room(web, room) or (room != own and room not in tied(web, own)):
        raise NoNear()


def told_slip(own, room, held, age):
    """The slip that a look at a room, held or free, is through a handle of its own room of this age, or None."""
    if not held:
        return "free", own, room
    if room != own:
        return "near", own, room, age
    return ("elder", own, age) if age > 0 else None


def clause_of(web, slip, held):
    """The clause by which a slip is found always, or "open"; held tells whether the handle's own room is held."""
    if slip[0] == "free":
        return "free"
    if slip[0] == "near":
        return "near" if held and slip[3] == 0 else "open"
    return "elder" if slip[2] <= web.memories[slip[1]] else "open"
