"""Looks through handles, and which of them are slips."""

from staletags.errors import NoGiving, NoNear, NoPast
from staletags.kinds import MOST_TAGS, is_between
from staletags.standings import is_past, standing_of
from staletags.webs import is_room, tied


def slip_of(web, past, giving, room):
    """The slip that a look through the handle of a giving at a room is, or None."""
    if not is_past(web, MOST_TAGS, past):
        raise NoPast()
    rooms = [deed[1] for deed in past if deed[0] == "give"]
    if not is_between(0, len(rooms) - 1, giving):
        raise NoGiving()
    own = rooms[giving]
    if not is_room(web, room) or (room != own and room not in tied(web, own)):
        raise NoNear()
    if not standing_of(web, past)[room][0]:
        return "free", own, room
    age = rooms[giving + 1:].count(own)
    if room != own:
        return "near", own, room, age
    return ("elder", own, age) if age > 0 else None
