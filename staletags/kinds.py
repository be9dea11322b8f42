"""The plain kinds of values that the package asks for, and the checks that go with them."""

from staletags.errors import NoNumber, NoTags

MOST_TAGS = 200
MOST_SIZE = 8


def is_integer(thing):
    """Whether a thing is an integer."""
    # Python takes True and False for integers, too; here they are flags.
    return isinstance(thing, int) and not isinstance(thing, bool)


def is_number(thing):
    """Whether a thing is an integer from 0 on."""
    return is_integer(thing) and thing >= 0


def is_between(least, most, thing):
    """Whether a thing is an integer from least to most."""
    return is_integer(thing) and least <= thing <= most


def check_number(least, most, thing):
    """Raise NoNumber unless a thing is an integer from least to most."""
    if not is_between(least, most, thing):
        raise NoNumber()


def check_tags(k):
    """Raise NoTags unless k is a count of tags."""
    if not is_between(1, MOST_TAGS, k):
        raise NoTags()


def check_size(size):
    """Raise NoNumber unless this is a count of cells that a room can have."""
    check_number(1, MOST_SIZE, size)
