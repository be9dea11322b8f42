import unittest

from helpers import DEEP, NO_INTEGERS, NO_TAG_COUNTS, NO_TUPLES, random_web, rng
from keeping import falling, greatest_steady, hashed, least_steady, turning
from plain import plain_passing, plain_walked
from staletags.counts import least_enough
from staletags.errors import NoSlip, NoTags, NotRight, TooMany
from staletags.keepers import by_table, led, steadily
from staletags.passing import passing
from staletags.settling import settled
from staletags.webs import Web, ring_web, row_web

R2 = row_web(2, 1)
R3 = row_web(3, 1)
ONE = row_web(1, 1)
ASYM = Web((3, 0), ())

NO_SLIPS = [
    (), ("elder",), ("elder", 0), ("elder", 0, 0), ("elder", 0, 9), ("elder", 0, -1), ("elder", 3, 1), ("elder", -1, 1),
    ("elder", 0, 1, 1), ("elder", True, 1), ("elder", 0, True), ("elder", 0, None), ("elder", "0", 1), ["elder", 0, 1],
    ("near", 0, 1), ("near", 0, 1, 9), ("near", 0, 1, -1), ("near", 0, 2, 0), ("near", 0, 0, 1), ("near", 0, 3, 0),
    ("near", 3, 2, 0), ("near", 0, 1, False), ("near", 0, True, 0), ("near", False, 1, 0), ("near", 0, 1, 0, 0), ("near", 0, 1, "0"),
    ["near", 0, 1, 0], ("free", 0, 1), ("free", 0, 1, 0), (b"elder", 0, 1), ("older", 0, 1), (0, 0, 1), (None, 0, 1),
    ("elder", 0, 10 ** 39), ("near", 0, 10 ** 39, 0), ("near", 10 ** 39, 0, 0), ("near", 0, 1, 10 ** 39), "elder", "near",
    (("elder",), 0, 1), ("elder", (0,), 1), ("near", 0, [1], 0), ("near", 0, 1, ()), ("", 0, 1), ("near", -3, 1, 0),
]


def never(web, k, standing, room):
    raise AssertionError("the keeper was asked")


def all_slips(web, ages=9):
    rooms = range(len(web.memories))
    slips = [("elder", room, age) for room in rooms for age in range(1, min(ages, 9))]
    pairs = [pair for one, other in web.ties for pair in ((one, other), (other, one))]
    return slips + [("near",) + pair + (age,) for pair in pairs for age in range(ages)]


def is_let(web, past, slip):
    """Whether a look by a slip is let behind a past."""
    given = {room: [deed[2] for deed in past if deed[:2] == ("give", room)][::-1] for room in range(len(web.memories))}
    held = {room: [deed[0] for deed in past if deed[1] == room][-1:] == ["give"] for room in given}
    looked = slip[1] if slip[0] == "elder" else slip[2]
    return held[looked] and len(given[slip[1]]) > slip[-1] and given[slip[1]][slip[-1]] == given[looked][0]


class PassingTest(unittest.TestCase):
    """Point 8.1: passing."""

    def test_elder(self):
        turns = (("give", 0), ("back", 0))
        self.assertIsNone(passing(least_steady, ONE, 2, ("elder", 0, 1)))
        self.assertEqual(passing(least_steady, ONE, 2, ("elder", 0, 2)), turns * 2 + (("give", 0),))
        self.assertIsNone(passing(least_steady, ONE, 2, ("elder", 0, 7)))
        self.assertEqual(passing(least_steady, ONE, 2, ("elder", 0, 8)), turns * 8 + (("give", 0),))
        self.assertEqual(passing(least_steady, row_web(1, 0), 1, ("elder", 0, 1)), turns + (("give", 0),))

    def test_near(self):
        # Free rooms bar none: their last handle can be let at a tied room.
        row = (("give", 0), ("back", 0), ("give", 1))
        self.assertEqual(passing(least_steady, R2, 3, ("near", 0, 1, 0)), row)
        self.assertEqual(passing(least_steady, R2, 3, ("near", 1, 0, 0)), (("give", 1), ("back", 1), ("give", 0)))
        row = (("give", 0), ("back", 0), ("give", 0), ("give", 1))
        self.assertEqual(passing(least_steady, R2, 3, ("near", 0, 1, 1)), row)
        own = Web((1, 1), ((0, 1),))
        self.assertIsNone(passing(by_halves, own, 4, ("near", 0, 1, 0)))
        self.assertIsNone(passing(by_halves, own, 4, ("near", 0, 1, 8)))

    def test_the_room_may_be_held_or_free(self):
        row = passing(greatest_steady, R2, 3, ("near", 0, 1, 1))
        self.assertTrue(is_let(R2, led(steadily(greatest_steady), R2, 3, row)[0], ("near", 0, 1, 1)))

    def test_against_the_plain_reading(self):
        dice = rng(179)
        found = {True: 0, False: 0}
        for seed in range(60):
            web = random_web(dice, 2, 2) if seed % 3 else Web((1, 0, 0), ((0, 1), (1, 2)))
            k = least_enough(web) + (dice.randrange(3) if seed % 3 else 0)
            steady = dice.choice([hashed(seed), hashed(seed), least_steady, greatest_steady, turning(seed, 3)])
            if plain_walked(steady, web, k)[1] > 3000:
                continue
            for slip in dice.sample(all_slips(web, 5), 3):
                wanted, many = plain_passing(steady, web, k, slip)
                if many > 3000:
                    self.assertRaises(TooMany, passing, steady, web, k, slip)
                    continue
                row = passing(steady, web, k, slip)
                self.assertEqual(row, wanted)
                found[row is None] += 1
                if row is not None:
                    self.assertIsInstance(row, tuple)
                    past, word = led(steadily(steady), web, k, row)
                    self.assertEqual(word, "kept")
                    self.assertTrue(is_let(web, past, slip))
                    self.assertFalse(any(is_let(web, past[:many], slip) for many in range(len(past))))
        self.assertGreater(min(found.values()), 20)

    def test_fact_of_slips(self):
        for web, k in ((R2, 3), (Web((2, 1), ((0, 1),)), 4), (Web((0, 2), ((0, 1),)), 4), (ring_web(3, 0), 3)):
            for seed in range(4):
                steady = hashed(seed)
                if plain_walked(steady, web, k)[0][0] != "right":
                    steady = by_table(settled(web, k)[1])
                for room, memory in enumerate(web.memories):
                    for age in range(1, min(memory, 8) + 1):
                        self.assertIsNone(passing(steady, web, k, ("elder", room, age)))
                for slip in all_slips(web, 1):
                    # Behind each row that is told the room is free.
                    row = passing(steady, web, k, slip)
                    asks = [ask[0] for ask in row or () if ask[1] == slip[1]]
                    self.assertIn(asks[-1:], ([], ["back"]))

    def test_one_tag_and_two_hundred(self):
        self.assertEqual(len(passing(least_steady, row_web(1, 0), 1, ("elder", 0, 8))), 17)
        self.assertEqual(len(passing(least_steady, row_web(1, 0), 200, ("elder", 0, 8))), 17)
        self.assertIsNone(passing(turning(0, 10 ** 9), ONE, 9, ("elder", 0, 8)))
        self.assertEqual(len(passing(turning(0, 10 ** 9), ONE, 8, ("elder", 0, 8))), 17)

    def test_all_that_the_keeper_is_called_with(self):
        calls = []

        def steady(*args):
            calls.append((args[0] is R2, args[1]))
            return least_steady(*args)

        passing(steady, R2, 3, ("near", 0, 1, 0))
        self.assertEqual(set(calls), {(True, 3)})


def by_halves(web, k, standing, room):
    """The steady keeper that keeps to the lower tags in room 0, and to the upper ones in room 1."""
    tags = standing[room][1]
    own = (0, 1) if room == 0 else (2, 3)
    return own[1] if tags[:1] == own[:1] else own[0]


class PassingErrorsTest(unittest.TestCase):
    """Point 8.1: the errors of passing, in their order, and its bounds."""

    def too_many(self, *args):
        with self.assertRaises(TooMany) as caught:
            passing(*args)
        self.assertEqual(caught.exception.most, 3000)

    def test_no_tags(self):
        for k in NO_TAG_COUNTS:
            self.assertRaises(NoTags, passing, never, R3, k, ("elder", 0, 1))
            self.assertRaises(NoTags, passing, never, R3, k, None)

    def test_no_slip(self):
        for slip in NO_SLIPS + NO_TUPLES + DEEP:
            self.assertRaises(NoSlip, passing, never, R3, 4, slip)
            self.assertRaises(NoSlip, passing, never, R3, 1, slip)
        for thing in NO_INTEGERS:
            self.assertRaises(NoSlip, passing, never, R3, 4, ("elder", thing, 1))
            self.assertRaises(NoSlip, passing, never, R3, 4, ("elder", 0, thing))
            self.assertRaises(NoSlip, passing, never, R3, 4, ("near", 0, thing, 0))
            self.assertRaises(NoSlip, passing, never, R3, 4, ("near", 0, 1, thing))
            self.assertRaises(NoSlip, passing, never, R3, 4, (thing, 0, 1))
        self.assertRaises(NoSlip, passing, never, R3, 4, (0,) * 19999)
        # Ahead of TooMany.
        self.assertRaises(NoSlip, passing, least_steady, row_web(60, 1), 4, ("near", 0, 2, 0))

    def test_ages(self):
        for slip in all_slips(R2):
            passing(least_steady, R2, 3, slip)

    def test_not_right(self):
        for steady in (lambda *args: None, lambda *args: 0, lambda *args: 7, lambda *args: "0"):
            self.assertRaises(NotRight, passing, steady, R3, 4, ("elder", 0, 1))
        late = falling(least_steady, {(((False, (1,)), (True, (0,))), 0)})
        self.assertEqual(plain_walked(late, R2, 3)[0][0], "falls")
        self.assertRaises(NotRight, passing, late, R2, 3, ("near", 0, 1, 0))

    def test_too_many_as_walked(self):
        for seed, many in ((1002599, 3000), (1000929, 3001)):
            self.assertEqual(plain_walked(hashed(seed), ASYM, 6)[1], many)
        self.assertIsNone(passing(hashed(1002599), ASYM, 6, ("elder", 0, 2)))
        self.too_many(hashed(1000929), ASYM, 6, ("elder", 0, 2))
        self.too_many(least_steady, row_web(60, 1), 4, ("elder", 0, 2))

    def test_just_so_many_pairs_of_what_is_found_always(self):
        slip = ("elder", 0, 3)
        for seed, many in ((2005732, 3000), (3006038, 3001)):
            self.assertLessEqual(plain_walked(hashed(seed), ASYM, 5)[1], 3000)
            self.assertEqual(plain_passing(hashed(seed), ASYM, 5, slip), (None, many))
        self.assertIsNone(passing(hashed(2005732), ASYM, 5, slip))
        self.too_many(hashed(3006038), ASYM, 5, slip)

    def test_just_so_many_pairs_ahead_of_a_row(self):
        slip = ("elder", 0, 8)
        for steady, many in ((turning(7000279, 30), 3000), (turning(8002630, 100), 3001)):
            row, counted = plain_passing(steady, R2, 11, slip)
            self.assertEqual((len(row), counted), (22 if many == 3000 else len(row), many))
            if many == 3000:
                self.assertEqual(passing(steady, R2, 11, slip), row)
            else:
                self.too_many(steady, R2, 11, slip)


if __name__ == "__main__":
    unittest.main()
