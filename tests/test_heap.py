import copy
import unittest

from heaps import scripted, state, turned, zero
from helpers import NO_INTEGERS, NO_TAG_COUNTS, random_web, rng
from keeping import ALL_KINDS, by_turns, drawing, least
from running import Ended, Memory
from staletags.errors import BadWeb, Full, NoGiving, NoNear, NoNumber, NoRoom, NotFree, NotKept, NoTags, TagError
from staletags.heap import Heap
from staletags.journals import recovered
from staletags.looks import slip_of
from staletags.standings import begun, first_barred, is_past, standing_of
from staletags.webs import Web, row_web, tied

R2 = row_web(2, 1)
R3 = row_web(3, 1)
BARE = row_web(2, 0)


class GivingTest(unittest.TestCase):
    """Point 9.1: give and take."""

    def test_begun(self):
        heap = Heap(R3, 4, least, 3)
        self.assertEqual(state(heap), ((), begun(R3), [], [(0, 0, 0)] * 3, [], 0, ""))

    def test_givings_are_numbered(self):
        heap = Heap(R3, 5, least, 1)
        self.assertEqual([heap.give(2), heap.give(0), heap.give(1)], [0, 1, 2])
        self.assertEqual(heap.back(1), ("let", 0))
        self.assertEqual(heap.give(0), 3)
        self.assertEqual(heap.handles(), [(2, 0), (0, 0), (1, 1), (0, 2)])
        self.assertEqual(heap.past(), (("give", 2, 0), ("give", 0, 0), ("give", 1, 1), ("back", 0), ("give", 0, 2)))
        self.assertEqual(heap.standing(), ((True, (2,)), (True, (1,)), (True, (0,))))

    def test_take(self):
        heap = Heap(R3, 5, least, 1)
        heap.give(1)
        self.assertEqual([heap.take(), heap.take()], [1, 2])
        self.assertEqual([room for room, _ in heap.handles()], [1, 0, 2])
        ahead = state(heap)
        self.assertRaises(Full, heap.take)
        self.assertEqual(state(heap), ahead)
        heap.back(0)
        self.assertEqual(heap.take(), 3)
        self.assertEqual(heap.handles()[3][0], 1)

    def test_what_the_keeper_is_called_with(self):
        calls = []

        def keeper(*args):
            calls.append(args)
            return 3 - len(calls)
        heap = Heap(R3, 4, keeper, 1)
        heap.give(1)
        heap.back(0)
        heap.take()
        self.assertIs(calls[0][0], calls[1][0])
        past = (("give", 1, 2), ("back", 1))
        self.assertEqual(calls, [(R3, 4, (), 1), (R3, 4, past, 0)])
        self.assertIsInstance(calls[1][2], tuple)

    def test_the_keeper_is_not_asked_in_vain(self):
        heap = Heap(R2, 3, scripted(0, 1), 1)
        heap.give(0)
        heap.give(1)
        # A third call of the keeper would raise IndexError.
        for room in (0, 1):
            self.assertRaises(NotFree, heap.give, room)
        self.assertRaises(NoRoom, heap.give, 2)
        self.assertRaises(Full, heap.take)

    def test_not_kept(self):
        for tag, word in (
            (0, "barred"), (1, "barred"), (None, "stuck"), (3, "odd"), (-1, "odd"), (True, "odd"), (False, "odd"), ("0", "odd"),
            ((0,), "odd"), ([], "odd"), (10 ** 39, "odd"), (R3, "odd"),
        ):
            heap = Heap(R3, 3, scripted(0, 1, tag, 2), 1)
            heap.back(heap.give(1))
            heap.give(0)
            ahead = state(heap)
            for call, args in ((heap.give, (1,)), (heap.take, ())):
                with self.assertRaises(NotKept) as caught:
                    call(*args)
                self.assertEqual(caught.exception.word, word)
                self.assertEqual(state(heap), ahead)
        # A tag that is not barred for one room may be for another.
        heap = Heap(R3, 3, scripted(0, 0, 0), 1)
        self.assertEqual([heap.give(0), heap.give(2)], [0, 1])
        self.assertRaises(NotKept, heap.give, 1)

    def test_a_keepers_own_error_goes_on(self):
        for error in (NotFree(), NotKept("stuck"), NoRoom(), Full(), BadWeb(3), TagError(), KeyError(0), IndexError(), ZeroDivisionError()):
            asked = []

            def keeper(web, k, past, room):
                asked.append(room)
                if len(asked) > 1:
                    raise error
                return 2
            heap = Heap(R3, 4, keeper, 1)
            heap.give(1)
            ahead = state(heap)
            for call, args in ((heap.give, (0,)), (heap.take, ())):
                with self.assertRaises(type(error)) as caught:
                    call(*args)
                self.assertIs(caught.exception, error)
                self.assertEqual(state(heap), ahead)

    def test_a_keeper_may_look_at_the_heap(self):
        heaps = []

        def keeper(web, k, past, room):
            self.assertEqual(heaps[0].past(), past)
            return len(heaps[0].handles())
        heaps.append(Heap(R3, 9, keeper, 1))
        for room in (2, 0, 1):
            heaps[0].give(room)
        self.assertEqual(heaps[0].handles(), [(2, 0), (0, 1), (1, 2)])

    def test_all_tags(self):
        heap = Heap(row_web(1, 30), 200, lambda web, k, past, room: 199 - len(past) // 2, 1)
        for number in range(200):
            self.assertEqual(heap.give(0), number)
            heap.back(number)
        self.assertEqual(heap.handles(), [(0, 199 - number) for number in range(200)])
        self.assertEqual(len(heap.standing()[0][1]), 30)

    def test_no_room(self):
        heap = Heap(R3, 4, least, 1)
        for room in NO_INTEGERS + [3, -1, 10 ** 39]:
            self.assertRaises(NoRoom, heap.give, room)
            self.assertRaises(NoRoom, heap.cells, room)
        self.assertEqual(heap.past(), ())


class MakingTest(unittest.TestCase):
    """Point 9.1: which heaps can be made."""

    def test_sizes(self):
        for size in range(1, 9):
            self.assertEqual(Heap(R2, 3, least, size).cells(1), (0,) * size)
        for size in NO_INTEGERS + [0, 9, -1, 10 ** 39]:
            self.assertRaises(NoNumber, Heap, R2, 3, least, size)

    def test_tags(self):
        for k in (1, 200):
            Heap(R2, k, least, 1)
        for k in NO_TAG_COUNTS:
            self.assertRaises(NoTags, Heap, R2, k, least, 1)
            # Ahead of what is wrong with the size.
            self.assertRaises(NoTags, Heap, R2, k, least, 0)
            self.assertRaises(NoTags, Heap, R2, k, least, None)

    def test_heaps_are_equal_to_nothing_else(self):
        heap = Heap(R2, 3, least, 1)
        for thing in (0, None, (), R2, heap.standing(), NoRoom()):
            self.assertIs(heap == thing, False)
            self.assertIs(thing == heap, False)


class LooksTest(unittest.TestCase):
    """Point 9.1: back, read and write, and the slips of a heap as 9.2 tells them."""

    def test_read_and_write(self):
        heap = Heap(R2, 3, least, 2)
        heap.give(0)
        self.assertEqual(heap.read(0, 0, 0), ("let", 0))
        self.assertEqual(heap.write(0, 0, 1, -7), ("let", -7))
        self.assertEqual((heap.read(0, 0, 1), heap.read(0, 0, 0)), (("let", -7), ("let", 0)))
        self.assertEqual(heap.cells(0), (0, -7))
        big = 10 ** 40 - 1
        self.assertEqual((heap.write(0, 0, 0, big), heap.write(0, 0, 1, -big)), (("let", big), ("let", -big)))
        self.assertEqual(heap.cells(0), (big, -big))
        self.assertEqual((heap.looks(), heap.slips()), (6, []))

    def test_found(self):
        heap = Heap(R2, 3, least, 1)
        heap.give(0)
        heap.give(1)
        ahead = state(heap)
        self.assertEqual(heap.write(0, 1, 0, 5), ("found", 0))
        self.assertEqual(heap.read(1, 0, 0), ("found", 0))
        self.assertEqual(heap.looks(), 2)
        self.assertEqual(state(heap)[:5], ahead[:5])
        self.assertEqual(state(heap)[6], ahead[6])

    def test_free_rooms_are_found(self):
        heap = Heap(BARE, 1, zero, 1)
        heap.give(0)
        heap.write(0, 0, 0, 8)
        heap.back(0)
        self.assertEqual((heap.back(0), heap.read(0, 0, 0), heap.write(0, 0, 0, 9)), (("found", 0),) * 3)
        # Held or free, the cells stay till the next giving.
        self.assertEqual(heap.cells(0), (8,))
        self.assertEqual(heap.read(0, 1, 0), ("found", 0))
        self.assertEqual((heap.looks(), heap.slips()), (6, []))
        heap.give(0)
        self.assertEqual(heap.cells(0), (0,))

    def test_elder_slips(self):
        heap = turned(3)
        self.assertEqual(heap.write(0, 0, 1, 4), ("let", 4))
        self.assertEqual(heap.read(1, 0, 1), ("let", 4))
        self.assertEqual(heap.read(2, 0, 1), ("let", 4))
        # The looks by which the room was given back count, too.
        self.assertEqual(heap.slips(), [(2, ("elder", 0, 2)), (3, ("elder", 0, 1))])
        self.assertEqual(heap.looks(), 5)

    def test_back_by_a_slip_frees_what_a_newer_giving_holds(self):
        heap = turned(2)
        self.assertEqual(heap.back(0), ("let", 0))
        self.assertEqual(heap.standing(), ((False, (0,)),))
        self.assertEqual(heap.slips(), [(1, ("elder", 0, 1))])
        self.assertEqual(heap.past()[-1], ("back", 0))
        self.assertEqual(heap.journal().splitlines()[-1], "back 0")
        self.assertEqual((heap.back(1), heap.read(1, 0, 0)), (("found", 0), ("found", 0)))
        self.assertEqual(heap.give(0), 2)

    def test_near_slips(self):
        # While room 0 is free its tag is not barred.
        heap = Heap(BARE, 1, zero, 1)
        heap.back(heap.give(0))
        heap.give(1)
        self.assertEqual(heap.write(0, 1, 0, 6), ("let", 6))
        self.assertEqual(heap.cells(1), (6,))
        self.assertEqual(heap.slips(), [(1, ("near", 0, 1, 0))])
        self.assertEqual(heap.read(1, 0, 0), ("found", 0))
        heap.back(1)
        heap.back(heap.give(0))
        heap.give(1)
        heap.read(0, 1, 0)
        heap.read(2, 1, 0)
        self.assertEqual(heap.slips(), [(1, ("near", 0, 1, 0)), (5, ("near", 0, 1, 1)), (6, ("near", 0, 1, 0))])

    def test_a_look_at_the_own_room_through_the_newest_handle_is_let(self):
        heap = Heap(R3, 5, least, 1)
        for room in (0, 1, 2):
            heap.give(room)
        for giving, room in enumerate((0, 1, 2)):
            self.assertEqual(heap.read(giving, room, 0), ("let", 0))
        self.assertEqual(heap.slips(), [])

    def test_no_giving(self):
        heap = Heap(R3, 4, least, 2)
        heap.give(0)
        heap.give(1)
        ahead = state(heap)
        for giving in NO_INTEGERS + [2, -1, 10 ** 39]:
            self.assertRaises(NoGiving, heap.back, giving)
            self.assertRaises(NoGiving, heap.read, giving, 0, 0)
            self.assertRaises(NoGiving, heap.write, giving, 0, 0, 0)
            # Ahead of all else that is wrong.
            self.assertRaises(NoGiving, heap.read, giving, 9, 9)
            self.assertRaises(NoGiving, heap.write, giving, None, None, None)
        self.assertEqual(state(heap), ahead)
        empty = Heap(R3, 4, least, 2)
        self.assertRaises(NoGiving, empty.back, 0)

    def test_no_near(self):
        heap = Heap(R3, 4, least, 2)
        heap.give(0)
        heap.give(1)
        ahead = state(heap)
        for room in NO_INTEGERS + [2, 3, -1, 10 ** 39]:
            self.assertRaises(NoNear, heap.read, 0, room, 0)
            self.assertRaises(NoNear, heap.write, 0, room, 0, 0)
            self.assertRaises(NoNear, heap.read, 0, room, 2)
            self.assertRaises(NoNear, heap.write, 0, room, None, None)
        self.assertEqual(state(heap), ahead)
        self.assertEqual(heap.read(1, 2, 0), ("found", 0))

    def test_no_cell_and_no_integer(self):
        for size in (1, 8):
            heap = Heap(R3, 4, least, size)
            heap.give(0)
            ahead = state(heap)
            for cell in NO_INTEGERS + [size, -1, 10 ** 39]:
                self.assertRaises(NoNumber, heap.read, 0, 0, cell)
                self.assertRaises(NoNumber, heap.write, 0, 0, cell, 0)
                self.assertRaises(NoNumber, heap.read, 0, 1, cell)
            for number in NO_INTEGERS:
                self.assertRaises(NoNumber, heap.write, 0, 0, size - 1, number)
                # Found looks are judged likewise, and not counted then.
                self.assertRaises(NoNumber, heap.write, 0, 1, 0, number)
            self.assertEqual(state(heap), ahead)


class TellingTest(unittest.TestCase):
    """Point 9.1: what a heap tells is new, and stays apart from it; copies go on apart."""

    def test_lists_are_new(self):
        heap = turned(3)
        heap.read(0, 0, 0)
        ahead = copy.deepcopy(state(heap))
        for told in (heap.handles(), heap.slips()):
            self.assertIsInstance(told, list)
            told.clear()
        self.assertEqual(state(heap), ahead)
        for told in (heap.past(), heap.cells(0), heap.standing()):
            self.assertIsInstance(told, tuple)

    def test_what_was_told_stays(self):
        heap = turned(2)
        heap.read(0, 0, 0)
        told = state(heap)
        kept = copy.deepcopy(told)
        heap.write(1, 0, 0, 5)
        heap.back(1)
        heap.give(0)
        self.assertEqual(told, kept)
        self.assertNotEqual(state(heap), kept)

    def test_copies_go_on_apart(self):
        heap = turned(2)
        heap.read(0, 0, 0)
        heap.write(1, 0, 0, -4)
        other = heap.copy()
        self.assertIsInstance(other, Heap)
        self.assertEqual(state(other), state(heap))
        self.assertEqual(other.cells(0), (-4, 0))
        ahead = state(heap)
        other.write(0, 0, 1, 5)
        other.back(1)
        other.give(0)
        self.assertEqual(state(heap), ahead)
        ahead = state(other)
        heap.write(1, 0, 0, 3)
        heap.back(0)
        heap.give(0)
        self.assertEqual(state(other), ahead)
        third = other.copy()
        self.assertEqual(third.write(2, 0, 0, 1), ("let", 1))
        self.assertEqual((third.cells(0), other.cells(0)), ((1, 0), (0, 0)))
        self.assertRaises(NoNumber, third.read, 0, 0, 2)

    def test_copies_ask_the_same_keeper(self):
        heap = Heap(R3, 4, drawing(3), 1)
        heap.give(1)
        other = heap.copy()
        for room in (2, 0):
            self.assertEqual(heap.give(room), other.give(room))
        self.assertEqual(state(heap), state(other))


class Model:
    """A heap as the document tells it, on the plain reading of rooms."""

    def __init__(self, web, k, keeper, size):
        self.memory = Memory(web, size, k, keeper)
        self.slips, self.looks, self.lines = [], 0, []

    def give(self, room):
        try:
            number = self.memory.give(room).number
        except Ended as end:
            return end.args[0]
        self.lines.append("give %d %d\n" % self.memory.handles[-1])
        return number

    def look(self, giving, room):
        slip, let = self.memory.slip(giving, room), self.memory.is_let(giving, room)
        if let and slip:
            self.slips.append((self.looks, slip))
        self.looks += 1
        return let

    def back(self, giving):
        room = self.memory.handles[giving][0]
        if not self.look(giving, room):
            return ("found", 0)
        self.memory.story.do(("back", room))
        self.lines.append("back %d\n" % room)
        return ("let", 0)

    def read(self, giving, room, cell):
        return ("let", self.memory.cells[room][cell]) if self.look(giving, room) else ("found", 0)

    def write(self, giving, room, cell, number):
        if not self.look(giving, room):
            return ("found", 0)
        self.memory.cells[room][cell] = number
        self.lines.append("put %d %d %d\n" % (room, cell, number))
        return ("let", number)

    def state(self):
        story = self.memory.story
        cells = [tuple(row) for row in self.memory.cells]
        return story.past, story.standing(), self.memory.handles, cells, self.slips, self.looks, "".join(self.lines)


def answer(call, *args):
    try:
        return call(*args)
    except NotKept as error:
        return error.word


class RandomTest(unittest.TestCase):
    """Points 9.1 and 9.2: heaps led at random, beside the plain reading."""

    def lead(self, dice, web, k, keeper, size, deeds):
        heap, model = Heap(web, k, keeper, size), Model(web, k, keeper, size)
        for _ in range(deeds):
            room = dice.randrange(len(web.memories))
            if not model.memory.handles or dice.random() < 0.3:
                free = [other for other in range(len(web.memories)) if not model.memory.story.held[other]]
                if dice.random() < 0.3 and free:
                    self.assertEqual(answer(heap.take), model.give(free[0]))
                elif room in free:
                    self.assertEqual(answer(heap.give, room), model.give(room))
                else:
                    self.assertRaises(NotFree, heap.give, room)
                continue
            giving = dice.randrange(len(model.memory.handles))
            own = model.memory.handles[giving][0]
            room, cell = dice.choice((own,) + tied(web, own)), dice.randrange(size)
            ahead = heap.past()
            wanted, many = slip_of(web, ahead, giving, room), len(heap.slips())
            word = dice.choice(("back", "read", "write", "write"))
            if word == "back":
                wanted = slip_of(web, ahead, giving, own)
                told = heap.back(giving)
                self.assertEqual(told, model.back(giving))
            elif word == "read":
                told = heap.read(giving, room, cell)
                self.assertEqual(told, model.read(giving, room, cell))
            else:
                number = dice.randrange(-99, 99)
                told = heap.write(giving, room, cell, number)
                self.assertEqual(told, model.write(giving, room, cell, number))
            self.assertEqual(heap.slips()[many:], [(heap.looks() - 1, wanted)] if told[0] == "let" and wanted else [])
            self.fact(web, ahead, wanted, told)
        self.assertEqual(state(heap), model.state())
        return heap

    def fact(self, web, past, slip, told):
        """THE FACT OF LOOKS, of one look, behind a clean past."""
        if slip is None:
            self.assertEqual(told[0], "let")
        elif slip[0] == "free":
            self.assertEqual(told, ("found", 0))
        elif slip[0] == "elder" and slip[2] <= web.memories[slip[1]]:
            self.assertEqual(told, ("found", 0))
        elif slip[0] == "near" and slip[3] == 0 and standing_of(web, past)[slip[1]][0]:
            self.assertEqual(told, ("found", 0))

    def test_beside_the_plain_reading(self):
        dice = rng(211)
        words = set()
        for turn in range(120):
            web = random_web(dice, 5, 2)
            k, size = dice.randrange(1, 8), dice.choice((1, 2, 8))
            keeper = ALL_KINDS[sorted(ALL_KINDS)[turn % len(ALL_KINDS)]]
            heap = self.lead(dice, web, k, keeper, size, dice.randrange(60))
            self.assertIs(is_past(web, k, heap.past()), True)
            self.assertIsNone(first_barred(web, heap.past()))
            self.assertEqual(heap.standing(), standing_of(web, heap.past()))
            words.update(slip[0] for _, slip in heap.slips())
        self.assertEqual(words, {"near", "elder"})

    def test_behind_barred_givings(self):
        # A recovered heap may show tags that were barred: its looks go by them alone.
        heap, many = recovered(R2, 2, by_turns, 1, "give 0 1\ngive 1 1\n")
        self.assertEqual(many, 18)
        self.assertEqual(heap.read(0, 1, 0), ("let", 0))
        self.assertEqual(heap.slips(), [(0, ("near", 0, 1, 0))])

    def test_long(self):
        heap = Heap(row_web(1, 1), 2, lambda web, k, past, room: len(past) // 2 % 2, 1)
        for number in range(2000):
            self.assertEqual(heap.give(0), number)
            self.assertEqual(heap.back(number), ("let", 0))
        self.assertEqual((heap.looks(), heap.slips(), len(heap.past())), (2000, [], 4000))

    def test_sixty_rooms(self):
        web = row_web(60, 30)
        heap = Heap(web, 200, least, 8)
        for room in range(60):
            self.assertEqual(heap.take(), room)
        self.assertRaises(Full, heap.take)
        self.assertEqual(heap.write(59, 59, 7, 1), ("let", 1))
        self.assertEqual(heap.write(59, 58, 7, 1), ("found", 0))
        self.assertRaises(NoNear, heap.write, 59, 57, 7, 1)


if __name__ == "__main__":
    unittest.main()
