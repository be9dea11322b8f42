import itertools
import unittest

from helpers import DEEP, NO_INTEGERS, NO_TAG_COUNTS, NO_TUPLES, random_web, rng
from keeping import drawn
from staletags.counts import least_enough, sided_number
from staletags.errors import NoNumber, NoTags, TooFew
from staletags.keepers import is_row, led
from staletags.standings import after, barred, begun, first_barred
from staletags.told import sided_keeper, told_keeper
from staletags.webs import Web, grid_web, ring_web, row_web, sided_web

R3 = row_web(3, 1)
# A piece with two lots, one without, a room by itself: the bound comes from ties, from lots, from a memory.
SEVERAL = Web((1, 0, 1, 2, 2, 2, 2, 6), ((0, 1), (0, 2), (0, 3), (4, 5), (4, 6), (5, 6)))


def hard_row(dice, keeper, web, k, asks):
    """A row along which the keeper is asked for the room of which most tags are barred, again and again."""
    standing = begun(web)
    past, row = (), []
    for _ in range(asks):
        free = [room for room, (held, _) in enumerate(standing) if not held]
        held = [room for room, (held, _) in enumerate(standing) if held]
        if free and (not held or dice.random() < 0.6):
            hardest = max(len(barred(web, standing, room)) for room in free)
            ask = ("give", dice.choice([room for room in free if len(barred(web, standing, room)) == hardest]))
            deed = ask + (keeper(web, k, past, ask[1]),)
        else:
            # Most often the room is given back whose tag is shown elsewhere, too, so that more are shown soon.
            shown = [tags[0] for flag, tags in standing if flag]
            twice = [room for room in held if shown.count(standing[room][1][0]) > 1]
            ask = deed = ("back", dice.choice(twice if twice and dice.random() < 0.8 else held))
        row.append(ask)
        if deed[-1] is None:
            break
        past += (deed,)
        standing = after(web, standing, deed)
    return row


class ToldTest(unittest.TestCase):
    """Point 4.2: told_keeper."""

    def check(self, keeper, web, k, row):
        past, word = led(keeper, web, k, row)
        self.assertEqual((word, len(past)), ("kept", len(row)))
        self.assertIsNone(first_barred(web, past))

    def test_hard_rows(self):
        dice = rng(107)
        webs = [
            R3, row_web(1, 0), row_web(1, 5), ring_web(5, 1), ring_web(6, 0), grid_web(3, 3, 0), grid_web(4, 4, 2),
            sided_web((3, 4), 1), sided_web((2, 2, 2), 1), Web((0, 0, 0), ()), SEVERAL,
        ] + [random_web(dice, 10, 4) for _ in range(40)]
        for web in webs:
            for k in (least_enough(web), least_enough(web) + 2):
                keeper = told_keeper(web, k)
                self.check(keeper, web, k, hard_row(dice, keeper, web, k, 120))

    def test_lots_of_unlike_memories(self):
        # Here the tags are too few for the ties, so each lot must keep to its own, and neither to the other's many.
        dice = rng(199)
        star = tuple((0, room) for room in range(1, 11))
        both = tuple((one, other) for one in range(5) for other in range(5, 10))
        for web, enough in (
            (Web((5,) + (0,) * 10, star), 7), (Web((0,) + (5,) * 10, star), 7), (Web((4,) + (2,) * 10, star), 8),
            (Web((1,) * 5 + (4,) * 5, both), 7), (Web((4,) * 5 + (1,) * 5, both), 7),
            (Web((0, 2, 1, 2, 1) + (3, 0, 2, 3, 3), both), 7),
        ):
            self.assertEqual(least_enough(web), enough)
            keeper = told_keeper(web, enough)
            for _ in range(10):
                self.check(keeper, web, enough, hard_row(dice, keeper, web, enough, 200))

    def test_sixty_rooms(self):
        dice = rng(109)
        for web in (grid_web(6, 10, 3), ring_web(59, 1), Web((30,) * 60, tuple((0, room) for room in range(1, 60)))):
            k = least_enough(web)
            keeper = told_keeper(web, k)
            self.check(keeper, web, k, hard_row(dice, keeper, web, k, 250))

    def test_all_short_rows(self):
        for web, asks in ((R3, 7), (row_web(2, 0), 9), (ring_web(3, 0), 7), (Web((0, 2, 0), ((0, 1),)), 7)):
            k = least_enough(web)
            keeper = told_keeper(web, k)
            for rooms in itertools.product(range(len(web.memories)), repeat=asks):
                held = set()
                row = []
                for room in rooms:
                    row.append(("back" if room in held else "give", room))
                    held ^= {room}
                self.check(keeper, web, k, row)

    def test_enough_and_one_fewer(self):
        for web in (R3, SEVERAL, ring_web(5, 2), row_web(2, 3), Web((4,), ())):
            enough = least_enough(web)
            told_keeper(web, enough)
            told_keeper(web, 200)
            for k in range(1, enough):
                self.assertRaises(TooFew, told_keeper, web, k)

    def test_one_tag_and_two_hundred(self):
        keeper = told_keeper(Web((0, 0), ()), 1)
        self.check(keeper, Web((0, 0), ()), 1, (("give", 0), ("give", 1), ("back", 0), ("give", 0)))
        web = sided_web((30, 30), 30)
        self.assertRaises(TooFew, told_keeper, web, 60)
        for k in (61, 200):
            self.check(told_keeper(web, k), web, k, [("give", room) for room in range(60)])

    def test_no_tags_goes_ahead(self):
        for k in NO_TAG_COUNTS:
            self.assertRaises(NoTags, told_keeper, R3, k)

    def test_equal_calls(self):
        past = (("give", 0, 3), ("give", 2, 1), ("back", 0))
        self.assertEqual(told_keeper(R3, 4)(R3, 4, past, 1), told_keeper(row_web(3, 1), 4)(R3, 4, past, 1))
        keeper = told_keeper(R3, 4)
        self.assertEqual([keeper(R3, 4, past, 1) for _ in range(3)], [keeper(R3, 4, past, 1)] * 3)


class SidedTest(unittest.TestCase):
    """Point 4.3: sided_keeper."""

    check = ToldTest.check

    def test_hard_rows(self):
        dice = rng(113)
        sides = [((1,), 0), ((5,), 3), ((1, 1), 0), ((2, 3), 1), ((3, 3, 3), 0), ((3, 3, 3), 1), ((1, 6), 2), ((4, 2, 1), 1)]
        sides += [(tuple(dice.randint(1, 6) for _ in range(dice.randint(1, 6))), dice.randint(0, 4)) for _ in range(40)]
        for sizes, memory in sides:
            web = sided_web(sizes, memory)
            for k in (sided_number(sizes, memory), sided_number(sizes, memory) + 1):
                keeper = sided_keeper(sizes, memory, k)
                self.check(keeper, web, k, hard_row(dice, keeper, web, k, 150))

    def test_large_sides(self):
        dice = rng(127)
        for sizes, memory in (((30, 30), 3), ((20, 20, 20), 1), ((7,) * 8, 2), ((59, 1), 0)):
            web, k = sided_web(sizes, memory), sided_number(sizes, memory)
            keeper = sided_keeper(sizes, memory, k)
            self.check(keeper, web, k, hard_row(dice, keeper, web, k, 300))
            self.assertLess(k, least_enough(web) + 1)

    def test_rows_by_sides(self):
        # One side is given whole, again and again, then a room of another one.
        for sizes, memory in (((3, 4), 1), ((4, 4, 2), 2), ((5, 1), 3)):
            web, k = sided_web(sizes, memory), sided_number(sizes, memory)
            keeper = sided_keeper(sizes, memory, k)
            row, held = [], set()
            for step in range(600):
                room = drawn("step", step // 3) % sum(sizes) if step % 3 else drawn(step) % sum(sizes)
                row.append(("back" if room in held else "give", room))
                held ^= {room}
            self.assertTrue(is_row(web, row))
            self.check(keeper, web, k, row)

    def test_fewer_than_told(self):
        # With fewer tags than least_enough this one is kept.
        self.assertLess(sided_number((3, 3, 3), 0), least_enough(sided_web((3, 3, 3), 0)))
        self.assertRaises(TooFew, told_keeper, sided_web((3, 3, 3), 0), 3)
        sided_keeper((3, 3, 3), 0, 3)

    def test_the_number_and_one_fewer(self):
        for sizes, memory in (((1,), 2), ((2, 3), 1), ((1, 1, 1), 0), ((10, 20, 30), 9)):
            number = sided_number(sizes, memory)
            sided_keeper(sizes, memory, number)
            sided_keeper(sizes, memory, 200)
            for k in range(1, number):
                self.assertRaises(TooFew, sided_keeper, sizes, memory, k)

    def test_errors_in_their_order(self):
        for sizes in [(), (0,), (61,), (30, 31), (1,) * 9, [1, 1], 2] + NO_TUPLES + DEEP:
            self.assertRaises(NoNumber, sided_keeper, sizes, 0, 50)
            self.assertRaises(NoNumber, sided_keeper, sizes, 99, 0)
        for memory in NO_INTEGERS + [-1, 31, 10 ** 39]:
            self.assertRaises(NoNumber, sided_keeper, (2, 3), memory, 50)
            self.assertRaises(NoNumber, sided_keeper, (2, 3), memory, True)
        for k in NO_TAG_COUNTS:
            self.assertRaises(NoTags, sided_keeper, (2, 3), 1, k)


if __name__ == "__main__":
    unittest.main()
