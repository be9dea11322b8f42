"""What several test files need: strange things, random webs and pasts, and pasts read plainly."""

import random

from staletags.errors import BadWeb, NoRoom, TagError
from staletags.hands import Program
from staletags.heap import Heap
from staletags.webs import Web


def nested(depth, wrap, core=0):
    """A thing nested so deep."""
    thing = core
    for _ in range(depth):
        thing = wrap(thing)
    return thing


DEEP = [
    nested(40, lambda x: (x,)),
    nested(40, lambda x: [x]),
    nested(40, lambda x: {"a": x}),
    nested(40, lambda x: (x, x) if isinstance(x, int) else (0, x)),
]

# Objects of built-in kinds and of the package: none of them is a number, a tuple that holds one, or a list.
ODD_ONES = [
    None, True, False, "", "a", "0", "give", b"", b"give", bytearray(b"x"), memoryview(b"ab"), {}, {0: 0},
    {"give": 0}, range(0), range(2), slice(0, 1), Ellipsis, NotImplemented, object(), len, int, iter([]),
    zip(), {}.keys(), {0: 1}.items(), lambda: 0, property(), Web((0,), ()), Web((1, 1), ((0, 1),)), NoRoom(), BadWeb("ties"),
    TagError, Web, DEEP[2], Program(()), Program((("take", "a"),)), Program, Heap(Web((0,), ()), 1, len, 1), Heap,
]

NO_INTEGERS = ODD_ONES + [(), (0,), [], [0], (0, 1), [0, 1]] + DEEP
NO_TUPLES = ODD_ONES + [0, 1, -1, 10 ** 39, [], [0], [0, 1], DEEP[1]]
NO_TAG_COUNTS = NO_INTEGERS + [0, -1, 201, 10 ** 39, -10 ** 39]


def rng(seed):
    return random.Random(seed)


def random_web(dice, rooms=8, memory=4):
    """A web of at most so many rooms; often in several pieces."""
    many = dice.randint(1, rooms)
    chance = dice.choice((0.1, 0.3, 0.6, 0.9))
    pairs = [(a, b) for a in range(many) for b in range(a + 1, many) if dice.random() < chance]
    return Web(tuple(dice.randint(0, memory) for _ in range(many)), tuple(pairs))


class Story:
    """A past read plainly: all tags of each room, and which rooms are held."""

    def __init__(self, web, past=()):
        self.web = web
        self.past = ()
        self.held = [False] * len(web.memories)
        self.given = [[] for _ in web.memories]
        for deed in past:
            self.do(deed)

    def do(self, deed):
        self.past += (deed,)
        self.held[deed[1]] = deed[0] == "give"
        if deed[0] == "give":
            self.given[deed[1]].append(deed[2])

    def are_tied(self, one, other):
        return (one, other) in self.web.ties or (other, one) in self.web.ties

    def barred(self, room):
        tags = set()
        for other in range(len(self.held)):
            if self.are_tied(room, other) and self.held[other]:
                tags.add(self.given[other][-1])
        for age in range(self.web.memories[room]):
            if age < len(self.given[room]):
                tags.add(self.given[room][-1 - age])
        return tuple(sorted(tags))

    def standing(self):
        pairs = []
        for room, memory in enumerate(self.web.memories):
            last = list(reversed(self.given[room]))[:1 if memory == 0 else memory]
            pairs.append((self.held[room], tuple(last)))
        return tuple(pairs)


def random_story(dice, web, k, deeds, clean):
    """A story of random deeds; clean, if that is wanted (shorter then, if a room is stuck)."""
    story = Story(web)
    for _ in range(deeds):
        room = dice.randrange(len(web.memories))
        if story.held[room]:
            story.do(("back", room))
            continue
        tags = [tag for tag in range(k) if not clean or tag not in story.barred(room)]
        if tags:
            story.do(("give", room, dice.choice(tags)))
    return story
