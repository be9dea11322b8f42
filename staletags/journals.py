"""Heaps recovered from their journals."""

from staletags.errors import NoText
from staletags.heap import Heap
from staletags.kinds import is_between
from staletags.standings import is_deed
from staletags.webs import is_room
from staletags.words import read_integer

MOST_DIGITS = 40

# How many numbers stand behind each word.
NUMBERS = {"give": 2, "back": 1, "put": 3}


def recovered(web, k, keeper, size, text):
    """The heap behind the lines of a journal that can be done from the front on, and how many signs they take."""
    heap = Heap(web, k, keeper, size)
    if not isinstance(text, str):
        raise NoText()
    many = 0
    # Behind the last line feed no line is whole.
    for row in text.split("\n")[:-1]:
        line = read_line(row)
        if line is None or not can_redo(web, k, size, heap.standing(), line):
            return heap, many
        heap.redo(line)
        many += len(row) + 1
    return heap, many


def read_line(row):
    """The word and the numbers of a line, or None if it is not written so."""
    words = row.split(" ")
    if words[0] not in NUMBERS or len(words) != 1 + NUMBERS[words[0]]:
        return None
    numbers = [read_integer(word, MOST_DIGITS) for word in words[1:]]
    if None in numbers:
        return None
    return (words[0],) + tuple(numbers)


def can_redo(web, k, size, standing, line):
    """Whether a line can be done in a standing."""
    if line[0] == "put":
        return is_room(web, line[1]) and standing[line[1]][0] and is_between(0, size - 1, line[2])
    if line[0] == "give" and line[2] >= k:
        return False
    return is_deed(web, standing, line)
