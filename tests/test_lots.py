import itertools
import unittest

from helpers import DEEP, NO_INTEGERS, NO_TUPLES, random_web, rng
from staletags.webs import Web, grid_web, is_odd_ring, odd_ring, ring_web, row_web, sided_web, two_lots


def piece_roots(web):
    """The least room of the piece of each room."""
    roots = list(range(len(web.memories)))
    for _ in roots:
        for one, other in web.ties:
            roots[one] = roots[other] = min(roots[one], roots[other])
    return roots


def lots_by_trial(web):
    """All pairs of lots that fit, found by trying each choice of rooms."""
    many = len(web.memories)
    roots = set(piece_roots(web))
    fits = []
    for sides in itertools.product((0, 1), repeat=many):
        if any(sides[root] for root in roots) or any(sides[a] == sides[b] for a, b in web.ties):
            continue
        fits.append(tuple(tuple(x for x in range(many) if sides[x] == side) for side in (0, 1)))
    return fits


def plain_odd_ring(web, thing):
    """The words of point 1.3, for tuples of rooms."""
    steps = list(zip(thing, thing[1:] + thing[:1]))
    near = all((a, b) in web.ties or (b, a) in web.ties for a, b in steps)
    return len(thing) % 2 == 1 and len(thing) >= 3 and len(set(thing)) == len(thing) and near


class TwoLotsTest(unittest.TestCase):
    """Point 1.3: two_lots."""

    def test_known_ones(self):
        self.assertEqual(two_lots(row_web(1, 0)), ((0,), ()))
        self.assertEqual(two_lots(row_web(4, 2)), ((0, 2), (1, 3)))
        self.assertEqual(two_lots(ring_web(6, 1)), ((0, 2, 4), (1, 3, 5)))
        self.assertEqual(two_lots(grid_web(3, 2, 0)), ((0, 2, 4), (1, 3, 5)))
        self.assertEqual(two_lots(grid_web(2, 2, 0)), ((0, 3), (1, 2)))
        self.assertEqual(two_lots(sided_web((2, 3), 0)), ((0, 1), (2, 3, 4)))
        self.assertIsNone(two_lots(ring_web(3, 0)))
        self.assertIsNone(two_lots(ring_web(59, 0)))
        self.assertIsNone(two_lots(sided_web((1, 1, 1), 0)))

    def test_least_room_of_each_piece(self):
        web = Web((0,) * 7, ((0, 5), (1, 4), (2, 5), (3, 4), (3, 6)))
        self.assertEqual(two_lots(web), ((0, 1, 2, 3), (4, 5, 6)))
        self.assertEqual(two_lots(Web((0,) * 3, ())), ((0, 1, 2), ()))

    def test_one_odd_piece_among_even_ones(self):
        self.assertIsNone(two_lots(Web((0,) * 7, ((0, 1), (2, 3), (4, 5), (4, 6), (5, 6)))))

    def test_by_trial(self):
        dice = rng(13)
        for _ in range(200):
            web = random_web(dice, 7)
            fits = lots_by_trial(web)
            self.assertLessEqual(len(fits), 1)
            self.assertEqual(two_lots(web), fits[0] if fits else None)


class OddRingTest(unittest.TestCase):
    """Point 1.3: odd_ring and is_odd_ring."""

    def test_known_ones(self):
        self.assertIsNone(odd_ring(row_web(1, 0)))
        self.assertIsNone(odd_ring(ring_web(60, 0)))
        self.assertIsNone(odd_ring(grid_web(6, 10, 0)))
        for many in (3, 5, 9, 59):
            self.assertEqual(sorted(odd_ring(ring_web(many, 1))), list(range(many)))

    def test_just_one_of_both(self):
        dice = rng(17)
        for _ in range(300):
            web = random_web(dice, 12)
            ring = odd_ring(web)
            self.assertEqual(ring is None, two_lots(web) is not None)
            if ring is not None:
                self.assertIsInstance(ring, tuple)
                self.assertTrue(plain_odd_ring(web, ring))
                self.assertIs(is_odd_ring(web, ring), True)

    def test_judged_by_definition(self):
        dice = rng(19)
        for _ in range(20):
            web = random_web(dice, 5)
            for many in range(6):
                for thing in itertools.product(range(len(web.memories)), repeat=many):
                    self.assertIs(is_odd_ring(web, thing), plain_odd_ring(web, thing))

    def test_known_rings(self):
        web = ring_web(5, 0)
        self.assertTrue(is_odd_ring(web, (0, 1, 2, 3, 4)))
        self.assertTrue(is_odd_ring(web, (3, 2, 1, 0, 4)))
        self.assertFalse(is_odd_ring(web, (0, 1, 2, 4, 3)))
        self.assertFalse(is_odd_ring(web, (0, 1, 2)))
        self.assertFalse(is_odd_ring(ring_web(4, 0), (0, 1, 2, 3)))
        self.assertFalse(is_odd_ring(ring_web(3, 0), (0, 1, 2, 0, 1, 2, 0, 1, 2)))
        self.assertFalse(is_odd_ring(row_web(1, 0), (0,)))

    def test_only_the_last_step_lacks(self):
        self.assertFalse(is_odd_ring(row_web(3, 0), (0, 1, 2)))

    def test_wrong_things(self):
        web = ring_web(3, 0)
        self.assertTrue(is_odd_ring(web, (0, 1, 2)))
        for thing in [[0, 1, 2], "012", (False, True, 2), (0, True, 2), (0, 1, 3), (-1, 0, 1), (0, 1, "2"), (), 0]:
            self.assertIs(is_odd_ring(web, thing), False)
        for thing in NO_TUPLES + DEEP:
            self.assertIs(is_odd_ring(web, thing), False)
        for thing in NO_INTEGERS:
            self.assertIs(is_odd_ring(web, (0, 1, thing)), False)
            self.assertIs(is_odd_ring(web, (thing, thing, thing)), False)


if __name__ == "__main__":
    unittest.main()
