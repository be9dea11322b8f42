"""The search for dyeings: tag by tag, each tag going to as many rooms as it can."""

from staletags.webs import pieces, tied


def found_dyeing(web, k):
    """A dyeing of the web with tags below k, or None."""
    lots = [[] for _ in web.memories]
    for rooms, _ in pieces(web):
        wanted = tuple([web.memories[room] + 1 if room in rooms else 0 for room in range(len(lots))])
        # More tags than all rooms of a piece want together are of no use to it.
        found = lots_by_tags(web, wanted, min(k, sum(wanted)), {})
        if found is None:
            return None
        for room in rooms:
            lots[room] = sorted(found[room])
    return tuple([tuple(lot) for lot in lots])


def lots_by_tags(web, wanted, k, failed):
    """A list of so many tags below k as each room wants, or None; failed is told what was looked at in vain."""
    hard, easy = without_easy(web, wanted, k)
    if not any(hard):
        lots = [[] for _ in hard]
    elif (hard, k) in failed:
        return None
    else:
        lots = lots_by_last_tag(web, hard, k, failed)
    if lots is None:
        failed[(hard, k)] = True
        return None
    # Backwards, as each was easy only beside those that were not found to be so ahead of it.
    for room in easy[::-1]:
        taken = {tag: True for other in tied(web, room) for tag in lots[other]}
        lots[room] = [tag for tag in range(k) if tag not in taken][:wanted[room]]
    return lots


def without_easy(web, wanted, k):
    """What the rooms want but for the easy ones, and the list of these, in the order in which they were found.

    A room is easy if it finds its tags whatever the tied rooms have: it can be left for later.
    """
    hard = list(wanted)
    easy = []
    found = True
    while found:
        found = False
        for room in range(len(hard)):
            if hard[room] > 0 and crowd(web, hard, room) <= k:
                hard[room] = 0
                easy.append(room)
                found = True
    return tuple(hard), easy


def crowd(web, wanted, room):
    """How many tags a room and all that are tied to it want together."""
    return wanted[room] + sum([wanted[other] for other in tied(web, room)])


def lots_by_last_tag(web, wanted, k, failed):
    """Likewise, by trying to which rooms the last tag goes."""
    if max(wanted) > k or any([wanted[one] + wanted[other] > k for one, other in web.ties]):
        return None
    wanting = [room for room in range(len(wanted)) if wanted[room] > 0]
    # One room must have the tag, without loss, as tags can change their places; the most crowded one fails first.
    first = max([(crowd(web, wanted, room), room) for room in wanting])[1]
    for rooms in full_lots(web, apart_from(web, first, wanting)):
        having = (first,) + rooms
        less = tuple([many - 1 if room in having else many for room, many in enumerate(wanted)])
        lots = lots_by_tags(web, less, k - 1, failed)
        if lots is not None:
            for other in having:
                lots[other].append(k - 1)
            return lots
    return None


def apart_from(web, room, rooms):
    """Those of some rooms that are neither the room nor tied to it."""
    return [other for other in rooms if other != room and other not in tied(web, room)]


def full_lots(web, rooms):
    """All lots of some rooms, none of them tied, to which no other of these rooms can be added."""
    if not rooms:
        return [()]
    near = [[room] + [other for other in tied(web, room) if other in rooms] for room in rooms]
    # Each such lot has one of the room and those tied to it, so the fewest of these are tried.
    fewest = min([(len(lot), lot) for lot in near])[1]
    found = {}
    for room in fewest:
        for lot in full_lots(web, apart_from(web, room, rooms)):
            found[tuple(sorted(lot + (room,)))] = True
    return list(found)
