import itertools
import unittest

from helpers import DEEP, NO_INTEGERS, NO_TUPLES, random_web, rng
from plain import clean_standings, is_kept
from staletags.counts import least_enough, least_needed, most_givings, needs, ring_dyed, sided_number
from staletags.errors import NoNumber, NoRoom
from staletags.webs import Web, grid_web, ring_web, row_web, sided_web, tied, two_lots
from test_lots import piece_roots

R3 = row_web(3, 1)


def plain_h(web, room):
    """The words of point 4.1, by trying all rows."""
    most = 0
    near = tied(web, room)
    for many in range(len(near) + 1):
        for row in itertools.permutations(near, many):
            if all(web.memories[other] >= at for at, other in enumerate(row)):
                most = many
    return most


def plain_enough(web):
    """The words of point 4.1, piece by piece."""
    roots = piece_roots(web)
    numbers = []
    for root in set(roots):
        rooms = [room for room in range(len(roots)) if roots[room] == root]
        names = {room: at for at, room in enumerate(rooms)}
        piece = Web(tuple(web.memories[room] for room in rooms), tuple(
            (names[one], names[other]) for one, other in web.ties if one in names))
        told = [max(web.memories[room] + 1 + len(tied(web, room)) for room in rooms)]
        lots = two_lots(piece)
        if lots is not None:
            told.append(sum(max([piece.memories[room] + 1 for room in lot], default=0) for lot in lots))
        numbers.append(min(told))
    return max(numbers)


class NeedsTest(unittest.TestCase):
    """Point 4.1: needs, least_needed; point 5.2: most_givings."""

    def test_known_ones(self):
        self.assertEqual([needs(R3, room) for room in range(3)], [3, 4, 3])
        self.assertEqual((least_needed(R3), most_givings(R3)), (4, 5))
        self.assertEqual([needs(row_web(1, memory), 0) for memory in (0, 1, 30)], [1, 2, 31])
        self.assertEqual((least_needed(row_web(1, 30)), most_givings(row_web(1, 30))), (31, 31))
        # Of rooms that remember none just one counts.
        star = Web((3, 0, 0, 0), ((0, 1), (0, 2), (0, 3)))
        self.assertEqual([needs(star, room) for room in range(4)], [5, 2, 2, 2])
        self.assertEqual(most_givings(star), 1 + 4)
        star = Web((0, 0, 1, 2), ((0, 1), (0, 2), (0, 3)))
        self.assertEqual([needs(star, room) for room in range(4)], [4, 2, 3, 4])
        self.assertEqual(most_givings(star), 6 + 1)
        # The row skips what remembers too little.
        star = Web((0, 1, 1, 1, 3), ((0, 1), (0, 2), (0, 3), (0, 4)))
        self.assertEqual(needs(star, 0), 4)

    def test_the_least_room_with_the_greatest_needs(self):
        web = Web((3, 0, 0, 1, 2), ((1, 2), (1, 3), (1, 4)))
        self.assertEqual([needs(web, room) for room in range(5)], [4, 4, 2, 3, 4])
        self.assertEqual(most_givings(web), 4)
        web = Web((0, 0, 1, 2, 3), ((0, 1), (0, 2), (0, 3)))
        self.assertEqual([needs(web, room) for room in range(5)], [4, 2, 3, 4, 4])
        self.assertEqual(most_givings(web), 7)

    def test_sixty_rooms(self):
        web = Web((30,) * 60, tuple((0, room) for room in range(1, 60)))
        self.assertEqual((least_needed(web), most_givings(web)), (62, 31 * 16 + 31))
        self.assertEqual(least_enough(web), 62)
        full = sided_web((8,) * 7, 0)
        self.assertEqual((least_needed(full), most_givings(full), least_enough(full)), (2, 2, 49))

    def test_by_trial(self):
        dice = rng(79)
        for _ in range(120):
            web = random_web(dice, 7, 4)
            plain = [web.memories[room] + 1 + plain_h(web, room) for room in range(len(web.memories))]
            self.assertEqual([needs(web, room) for room in range(len(web.memories))], plain)
            self.assertEqual(least_needed(web), max(plain))
            room = plain.index(max(plain))
            h = plain_h(web, room)
            self.assertEqual(most_givings(web), h * (h + 1) // 2 + web.memories[room] + 1)

    def test_no_room(self):
        for thing in NO_INTEGERS + [3, -1, 10 ** 39]:
            self.assertRaises(NoRoom, needs, R3, thing)


class EnoughTest(unittest.TestCase):
    """Point 4.1: least_enough."""

    def test_known_ones(self):
        self.assertEqual(least_enough(R3), 4)
        self.assertEqual([least_enough(row_web(1, memory)) for memory in (0, 1, 30)], [1, 2, 31])
        self.assertEqual(least_enough(ring_web(5, 1)), 4)
        self.assertEqual(least_enough(row_web(3, 0)), 2)
        self.assertEqual(least_enough(ring_web(4, 0)), 2)
        self.assertEqual(least_enough(ring_web(5, 0)), 3)
        self.assertEqual(least_enough(grid_web(5, 5, 1)), 4)
        self.assertEqual(least_enough(grid_web(5, 5, 4)), 9)

    def test_piece_by_piece(self):
        # A room by itself with a great memory, a star with two lots, and a ring without.
        web = Web((9, 0, 1, 1, 1), ((1, 2), (1, 3), (1, 4)))
        self.assertEqual(least_enough(web), 10)
        web = Web((0, 0, 1, 1, 1), ((1, 2), (1, 3), (1, 4)))
        self.assertEqual(least_enough(web), 3)
        web = Web((0, 0, 1, 1, 1, 2, 2, 2), ((1, 2), (1, 3), (1, 4), (5, 6), (5, 7), (6, 7)))
        self.assertEqual(least_enough(web), 5)
        # By lots all rooms of one count, not just those that are tied to the greatest.
        web = Web((0, 3, 0, 0, 0), ((0, 1), (0, 2), (0, 3), (0, 4)))
        self.assertEqual(least_enough(web), 5)

    def test_by_the_words(self):
        dice = rng(83)
        for _ in range(300):
            web = random_web(dice, 9, 4)
            self.assertEqual(least_enough(web), plain_enough(web))

    def test_between_them_lies_the_least(self):
        dice = rng(89)
        done = 0
        while done < 40:
            web = random_web(dice, 3, 2)
            low, high = least_needed(web), least_enough(web)
            self.assertLessEqual(low, high)
            if len(clean_standings(web, min(high, 5))) <= 1500 and high <= 5:
                done += 1
                self.assertFalse(low > 1 and is_kept(web, low - 1))
                self.assertTrue(is_kept(web, high))


class MainFactTest(unittest.TestCase):
    """Point 4.2: when both numbers are the same."""

    def test_one_memory(self):
        dice = rng(97)
        fits = 0
        for _ in range(400):
            web = random_web(dice, 9, 0)
            memory = dice.randint(0, 4)
            web = Web((memory,) * len(web.memories), web.ties)
            most = max(len(tied(web, room)) for room in range(len(web.memories)))
            if most <= memory + 1 or two_lots(web) is not None:
                fits += 1
                number = memory + 1 + min(most, memory + 1)
                self.assertEqual((least_needed(web), least_enough(web)), (number, number))
        self.assertGreater(fits, 100)

    def test_a_room_with_all_its_ties(self):
        dice = rng(101)
        fits = 0
        for _ in range(400):
            web = random_web(dice, 8, 5)
            rooms = range(len(web.memories))
            most = max(web.memories[room] + 1 + len(tied(web, room)) for room in rooms)
            full = [room for room in rooms if needs(web, room) == web.memories[room] + 1 + len(tied(web, room)) == most]
            if full:
                fits += 1
                self.assertEqual((least_needed(web), least_enough(web)), (most, most))
        self.assertGreater(fits, 100)


class SidedNumberTest(unittest.TestCase):
    """Point 4.3: sided_number."""

    def test_known_ones(self):
        for sizes, memory, number in [
            ((2, 3), 1, 4), ((1,), 0, 1), ((60,), 30, 31), ((1, 1), 0, 2), ((1, 1), 5, 7), ((3, 1), 1, 4), ((1, 3), 1, 4),
            ((2, 2, 2), 0, 3), ((2, 2, 2), 1, 6), ((4, 1, 2), 2, 8), ((1,) * 8, 0, 8), ((1,) * 8, 30, 38),
            ((30, 30), 30, 61), ((29, 31), 30, 62), ((20, 20, 20), 30, 71), ((5, 3, 3), 30, 39), ((1, 59), 0, 2),
        ]:
            self.assertEqual(sided_number(sizes, memory), number, (sizes, memory))

    def test_between_the_others(self):
        dice = rng(103)
        for _ in range(100):
            sizes = tuple(dice.randint(1, 7) for _ in range(dice.randint(1, 8)))
            memory = dice.randint(0, 6)
            web = sided_web(sizes, memory)
            self.assertLessEqual(least_needed(web), sided_number(sizes, memory))
            self.assertLessEqual(sided_number(sizes, memory), least_enough(web))

    def test_is_the_least(self):
        for sizes, memory in [((1, 1), 0), ((1, 2), 0), ((1, 1), 1), ((1, 1, 1), 0), ((2, 2), 0), ((1, 1, 2), 0), ((2,), 1)]:
            number = sided_number(sizes, memory)
            web = sided_web(sizes, memory)
            self.assertTrue(is_kept(web, number))
            self.assertFalse(number > 1 and is_kept(web, number - 1))

    def test_no_number(self):
        for sizes in [(), (0,), (1, 0), (61,), (30, 31), (-1, 5), (1,) * 9, (10 ** 39,), [1, 1], 2]:
            self.assertRaises(NoNumber, sided_number, sizes, 0)
            self.assertRaises(NoNumber, sided_number, sizes, 31)
        for thing in NO_TUPLES + DEEP:
            self.assertRaises(NoNumber, sided_number, thing, 0)
        for thing in NO_INTEGERS:
            self.assertRaises(NoNumber, sided_number, (1, thing), 0)
        for memory in NO_INTEGERS + [-1, 31, 10 ** 39]:
            self.assertRaises(NoNumber, sided_number, (1, 2), memory)


class RingDyedTest(unittest.TestCase):
    """Point 7.2: ring_dyed."""

    def test_known_ones(self):
        for half, memory, number in [
            (2, 1, 5), (1, 0, 3), (1, 1, 6), (2, 0, 3), (3, 2, 7), (3, 3, 10), (2, 2, 8), (1000, 0, 3), (1000, 999, 2001),
            (999, 999, 2002), (1, 1000, 3003), (1000, 1000, 2004), (2, 1000, 2503),
        ]:
            self.assertEqual(ring_dyed(half, memory), number, (half, memory))

    def test_no_number(self):
        for half in NO_INTEGERS + [0, -1, 1001, 10 ** 39]:
            self.assertRaises(NoNumber, ring_dyed, half, 0)
            self.assertRaises(NoNumber, ring_dyed, half, -1)
        for memory in NO_INTEGERS + [-1, 1001, 10 ** 39]:
            self.assertRaises(NoNumber, ring_dyed, 1, memory)


if __name__ == "__main__":
    unittest.main()
