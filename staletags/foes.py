"""Foes: functions that choose the asks, and beat every keeper that has too few tags."""

from staletags.counts import least_needed, neediest, rising, sided_number
from staletags.errors import BadFoe, NotFew
from staletags.keepers import led_on
from staletags.kinds import check_number, check_tags
from staletags.standings import begun, is_ask, standing_of
from staletags.webs import check_sided, sided_web

MOST_MET = 2000


def met(keeper, foe, web, k, most):
    """The past, and a word of how it ended, when a keeper meets a foe for so many givings."""
    check_tags(k)
    check_number(0, MOST_MET, most)
    past = ()
    standing = begun(web)
    givings = 0
    while givings < most:
        ask = foe(past)
        if ask is None:
            return past, "done"
        if not is_ask(web, standing, ask):
            raise BadFoe(len(past))
        past, standing, word = led_on(keeper, web, k, past, standing, ask)
        if word != "kept":
            return past, word
        if ask[0] == "give":
            givings += 1
    return past, "kept"


def told_foe(web, k):
    """A foe by which no keeper is kept for its first most_givings givings."""
    check_tags(k)
    if k >= least_needed(web):
        raise NotFew()
    room = neediest(web)
    return pressing(web, rising(web, room), room)


def sided_foe(sizes, memory, k):
    """A foe of a web of sides by which no keeper is kept for its first 2000 givings."""
    check_sided(sizes, memory)
    check_tags(k)
    if k >= sided_number(sizes, memory):
        raise NotFew()
    firsts = [sum(sizes[:side]) for side in range(len(sizes))]
    fewest = sizes.index(min(sizes))
    others = []
    for side, size in enumerate(sizes):
        if side != fewest:
            others.extend([firsts[side] + at for at in range(min(size, memory + 1))])
    return pressing(sided_web(sizes, memory), others, firsts[fewest])


def pressing(web, others, room):
    """The foe that has some other rooms show unlike tags, and then gives the room, tied to all, again and again.

    One of the others that shows a tag of one ahead of it is given anew. That ends: of the rooms ahead of it that can
    show one of its tags there are no more than it remembers, and so many givings and one bring unlike tags.
    """
    def foe(past):
        standing = standing_of(web, past)
        shown = []
        for other in others:
            held, tags = standing[other]
            if not held:
                return "give", other
            if tags[0] in shown:
                return "back", other
            shown.append(tags[0])
        word = "back" if standing[room][0] else "give"
        return word, room
    return foe
