"""Hands woven: programs that run on the same rooms, in a given order or in all."""

from staletags.errors import NoHands, NoWeaving, TooMany
from staletags.hands import Program
from staletags.keepers import steadily
from staletags.kinds import check_size, check_tags, is_between
from staletags.rooms import Rooms, TaggedRooms
from staletags.steps import Weave, said_of, words_of

MOST_HANDS = 3
MOST_WEAVINGS = 3000


def check_hands(hands):
    """Raise NoHands unless these are hands."""
    if not isinstance(hands, tuple) or not is_between(1, MOST_HANDS, len(hands)):
        raise NoHands()
    if not all([isinstance(program, Program) for program in hands]):
        raise NoHands()


def woven(hands, web, size, weaving):
    """How the hands end behind a weaving without tags, what they said, and the slips."""
    check_hands(hands)
    check_size(size)
    weave = Weave(hands, Rooms(web, size))
    follow(weave, weaving)
    return words_of(weave), said_of(weave), tuple(weave.passed)


def woven_tagged(hands, web, k, keeper, size, weaving):
    """How the hands end behind a weaving on a heap, what they said, and the slips that were let and were found."""
    check_hands(hands)
    check_tags(k)
    check_size(size)
    weave = Weave(hands, TaggedRooms(web, k, keeper, size))
    follow(weave, weaving)
    return words_of(weave), said_of(weave), tuple(weave.passed), tuple(weave.found)


def follow(weave, weaving):
    """Have the hands of a weave come as a weaving tells; raise NoWeaving if it is none."""
    if not isinstance(weaving, tuple):
        raise NoWeaving(-1)
    for place, number in enumerate(weaving):
        if not is_between(0, len(weave.hands) - 1, number) or not weave.can_come(number):
            raise NoWeaving(place)
        weave.come(number)


class Survey:
    """What is told of weavings that are noted one behind another, shorter ones first, else ascending."""

    def __init__(self):
        self.whole = 0
        self.ends = {}
        # The first weaving whose last step is a slip that is let, and the first one whose only slip this is, and open.
        self.passing = None
        self.opening = None

    def note(self, weaving, weave):
        """Note a weaving and the weave behind it."""
        if not any([weave.can_come(number) for number in range(len(weave.hands))]):
            self.whole += 1
            self.ends[(words_of(weave), said_of(weave))] = True
        if weave.passed and weave.passed[-1][0] == len(weaving) - 1:
            if self.passing is None:
                self.passing = weaving
            if self.opening is None and len(weave.passed) == 1 and weave.clause == "open":
                self.opening = weaving


def surveyed(weave):
    """What is told of all weavings from a weave on that is not begun."""
    survey = Survey()
    level = [((), weave)]
    many = 0
    while level:
        many += len(level)
        for weaving, behind in level:
            survey.note(weaving, behind)
        level = longer_by_one(level, MOST_WEAVINGS - many)
    return survey


def longer_by_one(level, most):
    """The weavings that are one longer, with the weaves behind them; raise TooMany if there are more than most."""
    following = []
    for weaving, weave in level:
        for number in range(len(weave.hands)):
            if weave.can_come(number):
                if len(following) == most:
                    raise TooMany(MOST_WEAVINGS)
                behind = weave.twin()
                behind.come(number)
                following.append((weaving + (number,), behind))
    return following


def surveyed_plain(hands, web, size):
    """What is told of all weavings without tags."""
    check_hands(hands)
    check_size(size)
    return surveyed(Weave(hands, Rooms(web, size)))


def whole_weavings(hands, web, size):
    """How many whole weavings there are."""
    return surveyed_plain(hands, web, size).whole


def outcomes(hands, web, size):
    """The ascending list of how hands end and what they said, behind all whole weavings."""
    return sorted(surveyed_plain(hands, web, size).ends)


def least_slip(hands, web, size):
    """The least of the shortest weavings whose last step is a slip, or None."""
    return surveyed_plain(hands, web, size).passing


def least_open(hands, web, size):
    """The least of the shortest weavings whose last step is their first slip, and open, or None."""
    return surveyed_plain(hands, web, size).opening


def passing_weaving(hands, web, k, steady, size):
    """The least of the shortest weavings by a steady keeper whose last step is a slip that is let, or None."""
    check_hands(hands)
    check_tags(k)
    check_size(size)
    return surveyed(Weave(hands, TaggedRooms(web, k, steadily(steady), size))).passing
