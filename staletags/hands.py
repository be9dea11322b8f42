"""Programs for hands: blocks of statements on names, rooms and cells."""

from staletags.errors import BadProgram
from staletags.kinds import is_between

LETTERS = "abcdefghijklmnopqrstuvwxyz"
MOST_LETTERS = 8
MOST_STATEMENTS = 60
DEEPEST = 6
MOST_INTEGER = 10 ** 9
MOST_NUMBER = 60
MOST_TIMES = 100

# The words of the statements, and of which kinds the parts behind them are.
PARTS = {
    "num": ("name", "integer"),
    "sum": ("name", "name", "name"),
    "copy": ("name", "name"),
    "give": ("name", "number"),
    "take": ("name",),
    "back": ("name",),
    "read": ("name", "name", "number", "number"),
    "write": ("name", "number", "number", "name"),
    "print": ("name",),
    "again": ("times", "block"),
    "if": ("name", "block", "block"),
}


class Program:
    """A block of statements that can be run."""

    def __init__(self, block):
        check_block(block)
        self.block = block

    def __eq__(self, other):
        return isinstance(other, Program) and self.block == other.block


def check_block(block):
    """Raise BadProgram unless this is the block of a program."""
    if not isinstance(block, tuple):
        raise BadProgram(())
    place = first_wrong(block, 1)
    if place is not None:
        raise BadProgram(place)
    if count_statements(block) > MOST_STATEMENTS:
        raise BadProgram(())


def first_wrong(block, depth):
    """The way to the first statement that is none in a block, which lies so deep, or None."""
    for at, statement in enumerate(block):
        if not is_statement(statement, depth):
            return (at,)
        for way, inner in inner_blocks(statement):
            place = first_wrong(inner, depth + 1)
            if place is not None:
                return (at,) + way + place
    return None


def count_statements(block):
    """How many statements a block has, those of blocks within counted, too."""
    return len(block) + sum([count_statements(inner) for part in block for _, inner in inner_blocks(part)])


def inner_blocks(statement):
    """The list of the blocks within a statement, each behind the way that leads from the statement to it."""
    if statement[0] == "again":
        return [((), statement[2])]
    if statement[0] == "if":
        return [((0,), statement[2]), ((1,), statement[3])]
    return []


def is_statement(thing, depth):
    """Whether a thing is a statement, its own parts being looked at alone, in a block that lies so deep."""
    if not isinstance(thing, tuple) or not thing:
        return False
    # Asked first, as not everything can be looked up in a dict.
    if not isinstance(thing[0], str) or thing[0] not in PARTS:
        return False
    kinds = PARTS[thing[0]]
    if len(thing) != 1 + len(kinds) or (depth == DEEPEST and "block" in kinds):
        return False
    return all([is_part(kind, part) for kind, part in zip(kinds, thing[1:])])


def is_part(kind, thing):
    """Whether a thing is a part of this kind."""
    if kind == "name":
        return is_name(thing)
    if kind == "block":
        return isinstance(thing, tuple)
    if kind == "integer":
        return is_between(-MOST_INTEGER, MOST_INTEGER, thing)
    return is_between(0, MOST_TIMES if kind == "times" else MOST_NUMBER, thing)


def is_name(thing):
    """Whether a thing is a name."""
    if not isinstance(thing, str) or not 1 <= len(thing) <= MOST_LETTERS:
        return False
    return all([sign in LETTERS for sign in thing])
