import unittest

from helpers import DEEP, NO_INTEGERS, NO_TUPLES, random_web, rng
from staletags.errors import BadWeb, NoNumber, NoRoom
from staletags.hands import Program
from staletags.heap import Heap
from staletags.standings import begun
from staletags.webs import Web, grid_web, ring_web, row_web, sided_web, tied


class WebTest(unittest.TestCase):
    """Point 1.1: webs, what is wrong with one, and tied."""

    def bad(self, part, memories, ties):
        with self.assertRaises(BadWeb) as caught:
            Web(memories, ties)
        self.assertEqual(caught.exception.part, part)
        self.assertIs(type(caught.exception.part), type(part))

    def test_attributes(self):
        web = Web((0, 30, 2), ((0, 2), (1, 2)))
        self.assertEqual((web.memories, web.ties), ((0, 30, 2), ((0, 2), (1, 2))))

    def test_one_room_and_sixty(self):
        self.assertEqual(Web((0,), ()).memories, (0,))
        self.assertEqual(len(Web((30,) * 60, ((0, 59), (58, 59))).memories), 60)
        pairs = tuple((a, b) for a in range(60) for b in range(a + 1, 60))
        self.assertEqual(Web((30,) * 60, pairs).ties, pairs)

    def test_bad_memories(self):
        self.bad("memories", (), ())
        self.bad("memories", (0,) * 61, ())
        self.bad("memories", (1,) * 20000, ())
        self.bad("memories", (0, 31), ())
        self.bad("memories", (-1, 0), ())
        self.bad("memories", (0, 10 ** 39), ())
        self.bad("memories", [0, 0], ())
        for thing in NO_TUPLES + DEEP:
            self.bad("memories", thing, ())
        for thing in NO_INTEGERS:
            self.bad("memories", (thing,), ())
            self.bad("memories", (0, thing), ())

    def test_ties_no_tuple(self):
        for thing in NO_TUPLES:
            self.bad("ties", (0, 0), thing)
        self.bad("ties", (0, 0), [(0, 1)])

    def test_bad_ties(self):
        wrong = [
            (1, 0), (1, 1), (0, 3), (-1, 0), (0,), (0, 1, 2), (), [0, 1], (0, True), (False, 1), (0, "1"), (0, None),
            (None, 1), ("a", "b"), (0, 10 ** 39), (-2, -1), (0, (1,)), ([], []), ({}, {}),
        ]
        for tie in wrong + NO_TUPLES + DEEP:
            self.bad(0, (0, 0, 0), (tie,))
            self.bad(2, (0, 0, 0), ((0, 1), (0, 2), tie))
            self.bad(1, (0, 0, 0), ((0, 1), tie, (1, 0)))

    def test_ties_that_do_not_ascend(self):
        self.bad(1, (0, 0, 0), ((0, 1), (0, 1)))
        self.bad(1, (0, 0, 0), ((0, 2), (0, 1)))
        self.bad(2, (0, 0, 0), ((0, 1), (1, 2), (0, 2)))
        self.bad(1, (0, 0, 0), ((1, 2), (0, 1), (5, 5)))

    def test_no_tie_in_a_single_room(self):
        self.bad(0, (0,), ((0, 0),))
        self.bad(0, (0,), ((0, 1),))

    def test_several_wrong_at_once(self):
        self.bad("memories", [0], [(0, 1)])
        self.bad("memories", (True,), ((1, 0),))
        self.bad("memories", (0, 31), None)
        self.bad("ties", (0, 0), [(1, 0)])
        self.bad(0, (0, 0), ((1, 0), (0, 0)))

    def test_equal(self):
        web = Web((1, 2), ((0, 1),))
        self.assertTrue(web == Web((1, 2), ((0, 1),)))
        self.assertFalse(web != Web((1, 2), ((0, 1),)))
        self.assertFalse(web == Web((1, 2), ()))
        self.assertFalse(web == Web((2, 1), ((0, 1),)))
        self.assertTrue(web != Web((2, 1), ((0, 1),)))

    def test_equal_to_nothing_else(self):
        web = Web((1, 2), ((0, 1),))

        class Alike:
            memories = (1, 2)
            ties = ((0, 1),)

        others = [((1, 2), ((0, 1),)), [(1, 2), ((0, 1),)], "web", None, 0, True, BadWeb("ties"), Web, Alike(), {}]
        others += [Program(()), Program((("take", "a"),)), Heap(web, 1, len, 1), begun(web)]
        for other in others:
            self.assertIs(web == other, False)
            self.assertIs(other == web, False)
            self.assertIs(web != other, True)
            self.assertIs(other != web, True)

    def test_tied(self):
        web = Web((0,) * 5, ((0, 2), (1, 2), (2, 4)))
        self.assertEqual([tied(web, room) for room in range(5)], [(2,), (2,), (0, 1, 4), (), (2,)])

    def test_tied_by_definition(self):
        dice = rng(11)
        for _ in range(100):
            web = random_web(dice)
            rooms = range(len(web.memories))
            for room in rooms:
                wanted = tuple(x for x in rooms if (x, room) in web.ties or (room, x) in web.ties)
                self.assertEqual(tied(web, room), wanted)

    def test_tied_no_room(self):
        web = Web((0,) * 3, ((0, 2),))
        for thing in NO_INTEGERS + [3, -1, 10 ** 39]:
            self.assertRaises(NoRoom, tied, web, thing)
        self.assertRaises(NoRoom, tied, Web((0,), ()), 1)


class MakersTest(unittest.TestCase):
    """Point 1.2: the four makers of webs."""

    def check(self, web, memories, ties):
        self.assertIsInstance(web, Web)
        self.assertEqual((web.memories, web.ties), (memories, ties))
        self.assertTrue(web == Web(memories, ties))

    def no_number(self, maker, *args):
        self.assertRaises(NoNumber, maker, *args)

    def test_row(self):
        self.check(row_web(1, 30), (30,), ())
        self.check(row_web(2, 0), (0, 0), ((0, 1),))
        self.check(row_web(4, 1), (1,) * 4, ((0, 1), (1, 2), (2, 3)))
        self.check(row_web(60, 30), (30,) * 60, tuple((a, a + 1) for a in range(59)))

    def test_ring(self):
        self.check(ring_web(3, 0), (0,) * 3, ((0, 1), (0, 2), (1, 2)))
        self.check(ring_web(5, 2), (2,) * 5, ((0, 1), (0, 4), (1, 2), (2, 3), (3, 4)))
        web = ring_web(60, 30)
        self.assertEqual((len(web.ties), tied(web, 0), tied(web, 59)), (60, (1, 59), (0, 58)))

    def test_grid(self):
        self.check(grid_web(1, 1, 3), (3,), ())
        self.check(grid_web(3, 1, 0), (0,) * 3, ((0, 1), (1, 2)))
        self.check(grid_web(1, 3, 0), (0,) * 3, ((0, 1), (1, 2)))
        self.check(grid_web(3, 2, 1), (1,) * 6, ((0, 1), (0, 3), (1, 2), (1, 4), (2, 5), (3, 4), (4, 5)))
        self.check(grid_web(2, 3, 1), (1,) * 6, ((0, 1), (0, 2), (1, 3), (2, 3), (2, 4), (3, 5), (4, 5)))

    def test_grid_by_places(self):
        for wide, high in ((1, 60), (60, 1), (6, 10), (10, 6), (7, 8), (2, 30)):
            web = grid_web(wide, high, 30)
            self.assertEqual(web.memories, (30,) * (wide * high))
            for one in range(wide * high):
                for other in range(one + 1, wide * high):
                    across = abs(one % wide - other % wide)
                    down = abs(one // wide - other // wide)
                    self.assertEqual((one, other) in web.ties, across + down == 1)

    def test_sided(self):
        self.check(sided_web((3,), 2), (2,) * 3, ())
        self.check(sided_web((1, 1), 0), (0, 0), ((0, 1),))
        self.check(sided_web((2, 1, 1), 1), (1,) * 4, ((0, 2), (0, 3), (1, 2), (1, 3), (2, 3)))
        self.check(sided_web((1, 3), 1), (1,) * 4, ((0, 1), (0, 2), (0, 3)))
        self.assertEqual(len(sided_web((1,) * 8, 0).ties), 28)
        self.assertEqual(len(sided_web((30, 30), 30).ties), 900)
        self.assertEqual(len(sided_web((60,), 30).memories), 60)

    def test_counts_out_of_bounds(self):
        for many in (0, -1, 61, 10 ** 39):
            self.no_number(row_web, many, 0)
        for many in (2, 1, 0, -3, 61, 10 ** 39):
            self.no_number(ring_web, many, 0)
        for wide, high in ((0, 1), (1, 0), (-2, -3), (61, 1), (1, 61), (8, 8), (6, 11), (10 ** 39, 10 ** 39)):
            self.no_number(grid_web, wide, high, 0)
        for sizes in ((), (0,), (1, 0), (61,), (30, 31), (-1, 5), (1,) * 9, (10 ** 39,), [1, 1], 2):
            self.no_number(sided_web, sizes, 0)

    def test_memory_out_of_bounds(self):
        for memory in NO_INTEGERS + [-1, 31, 10 ** 39]:
            self.no_number(row_web, 3, memory)
            self.no_number(ring_web, 3, memory)
            self.no_number(grid_web, 2, 2, memory)
            self.no_number(sided_web, (2, 2), memory)

    def test_no_integers(self):
        for thing in NO_INTEGERS:
            self.no_number(row_web, thing, 0)
            self.no_number(ring_web, thing, 0)
            self.no_number(grid_web, thing, 1, 0)
            self.no_number(grid_web, 1, thing, 0)
            self.no_number(sided_web, (thing,), 0)
            self.no_number(sided_web, (1, thing), 0)
        for thing in NO_TUPLES + DEEP:
            self.no_number(sided_web, thing, 0)

    def test_several_wrong_at_once(self):
        self.no_number(row_web, None, None)
        self.no_number(ring_web, "3", True)
        self.no_number(grid_web, [], {}, ())
        self.no_number(sided_web, [1], -1)


if __name__ == "__main__":
    unittest.main()
