"""Keepers for the tests: steady ones, and ones that go by the whole past."""

import zlib

from staletags.standings import barred, standing_of


def drawn(*parts):
    """A number that hangs on the parts alone, on all Pythons."""
    return zlib.crc32(repr(parts).encode())


def not_barred(web, k, standing, room):
    out = barred(web, standing, room)
    return [tag for tag in range(k) if tag not in out]


def hashed(seed):
    """A steady keeper that draws one of the tags that are not barred."""
    def steady(web, k, standing, room):
        tags = not_barred(web, k, standing, room)
        return tags[drawn(seed, standing, room) % len(tags)] if tags else None
    return steady


def turning(seed, odds):
    """A steady keeper that goes on to the next tag that is not barred, and farther now and then."""
    def steady(web, k, standing, room):
        tags = standing[room][1]
        number = drawn(seed, standing, room)
        tag = (tags[0] + (1 if number % odds else 1 + number // odds % (k - 1))) % k if tags else 0
        while tag in barred(web, standing, room):
            tag = (tag + 1) % k
        return tag
    return steady


def falling(steady, places, told=None):
    """A steady keeper that tells this at some places, pairs of a standing and a room."""
    def other(web, k, standing, room):
        return told if (standing, room) in places else steady(web, k, standing, room)
    return other


def least_steady(web, k, standing, room):
    return next(iter(not_barred(web, k, standing, room)), None)


def greatest_steady(web, k, standing, room):
    return next(reversed(not_barred(web, k, standing, room)), None)


def least(web, k, past, room):
    return least_steady(web, k, standing_of(web, past), room)


def greatest(web, k, past, room):
    return greatest_steady(web, k, standing_of(web, past), room)


def longest_ago(web, k, past, room):
    """The tag that was given longest ago, or never, of those that are not barred."""
    tags = not_barred(web, k, standing_of(web, past), room)
    last = {deed[2]: at for at, deed in enumerate(past) if deed[0] == "give"}
    return min(tags, key=lambda tag: last.get(tag, -1), default=None)


def sparing(web, k, past, room):
    """The tag that was given last, of those that are not barred: so that few tags come."""
    tags = not_barred(web, k, standing_of(web, past), room)
    last = {deed[2]: at for at, deed in enumerate(past) if deed[0] == "give"}
    return max(tags, key=lambda tag: last.get(tag, -1), default=None)


def by_turns(web, k, past, room):
    """One tag behind another, whatever is barred."""
    return sum(deed[0] == "give" for deed in past) % k


def drawing(seed):
    def keeper(web, k, past, room):
        tags = not_barred(web, k, standing_of(web, past), room)
        return tags[drawn(seed, past, room) % len(tags)] if tags else None
    return keeper


def breaking_off(keeper, many, told=None):
    """A keeper that tells this once so many givings were kept."""
    def other(web, k, past, room):
        done = sum(deed[0] == "give" for deed in past) >= many
        return told if done else keeper(web, k, past, room)
    return other


ALL_KINDS = {
    "least": least, "greatest": greatest, "longest ago": longest_ago, "sparing": sparing, "by turns": by_turns,
    "drawing": drawing(1), "drawing otherwise": drawing(2),
    "breaking off at once": breaking_off(least, 0), "breaking off": breaking_off(least, 2),
    "odd at once": breaking_off(least, 0, "odd"), "odd": breaking_off(greatest, 2, True),
}
