"""Slips, and whether a steady keeper that is right lets some pass."""

from staletags.errors import NoSlip, NotRight
from staletags.kinds import check_tags, is_between
from staletags.moves import check_many, row_to
from staletags.standings import asks_at, begun
from staletags.walks import steady_step, walked
from staletags.webs import is_room, tied

MOST_AGE = 8


def passing(steady, web, k, slip):
    """The least of the shortest rows behind which a look by a slip is let, or None."""
    check_tags(k)
    if not is_slip(web, slip):
        raise NoSlip()
    if walked(steady, web, k)[0] != "right":
        raise NotRight()
    start = (begun(web), ())
    came = {start: None}
    level = [start]
    # Level by level, each in the order of its rows, as in walked.
    while level:
        for state in level:
            if lets(slip, state):
                return row_to(came, state)
        check_many(came)
        following = []
        for state in level:
            for ask in asks_at(state[0]):
                behind = state_behind(steady, web, k, slip, state, ask)
                if behind not in came:
                    came[behind] = (state, ask)
                    following.append(behind)
        level = following
    return None


def is_slip(web, thing):
    """Whether a thing is a slip of the web."""
    if not isinstance(thing, tuple) or len(thing) not in (3, 4):
        return False
    # Asked first, as Python can be set to raise an error where bytes are compared with a string.
    if not isinstance(thing[0], str) or not is_room(web, thing[1]):
        return False
    if thing[0] == "elder":
        return len(thing) == 3 and is_between(1, MOST_AGE, thing[2])
    if thing[0] != "near" or len(thing) != 4:
        return False
    # A flag is no room, though it is equal to one.
    return is_room(web, thing[2]) and thing[2] in tied(web, thing[1]) and is_between(0, MOST_AGE, thing[3])


def state_behind(steady, web, k, slip, state, ask):
    """The pair behind an ask of a standing and the last tags of the slip's room, as many as its age asks for."""
    standing, tags = state
    behind, _ = steady_step(steady, web, k, standing, ask)
    room, age = slip[1], slip[-1]
    if ask == ("give", room):
        tags = (behind[room][1][:1] + tags)[:age + 1]
    return behind, tags


def lets(slip, state):
    """Whether a look by a slip is let."""
    standing, tags = state
    age = slip[-1]
    # The room itself for an elder handle, the other one for a near one.
    held, shown = standing[slip[-2]]
    return held and len(tags) > age and tags[age] == shown[0]
