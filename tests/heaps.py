"""Heaps for the tests, and all that one tells."""

from staletags.heap import Heap
from staletags.webs import row_web


def zero(web, k, past, room):
    return 0


def scripted(*tags):
    """A keeper that gives these tags, one behind another."""
    def keeper(web, k, past, room):
        return tags[len([deed for deed in past if deed[0] == "give"])]
    return keeper


def state(heap):
    """All that a heap tells."""
    rooms = range(len(heap.standing()))
    return (heap.past(), heap.standing(), heap.handles(), [heap.cells(room) for room in rooms], heap.slips(), heap.looks(),
            heap.journal())


def turned(times=1):
    """A heap of one room that remembers none, given so many times with one tag, held at last."""
    heap = Heap(row_web(1, 0), 1, zero, 2)
    for _ in range(times - 1):
        heap.back(heap.give(0))
    heap.give(0)
    return heap
