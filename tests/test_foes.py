import unittest

from helpers import DEEP, NO_INTEGERS, NO_TAG_COUNTS, NO_TUPLES, random_story, random_web, rng
from keeping import ALL_KINDS, by_turns, drawing, least, longest_ago
from staletags.counts import least_needed, most_givings, sided_number
from staletags.errors import BadFoe, NoNumber, NotFew, NoTags
from staletags.foes import met, sided_foe, told_foe
from staletags.keepers import led
from staletags.standings import after, barred, begun, first_barred, is_past
from staletags.told import sided_keeper, told_keeper
from staletags.webs import Web, grid_web, ring_web, row_web, sided_web

R3 = row_web(3, 1)
ONE = row_web(1, 1)


def never(*args):
    raise AssertionError("a function was called")


def to_and_fro(past):
    """The foe that gives room 0 and gives it back, again and again."""
    return ("back" if len(past) % 2 else "give", 0)


def by_row(row):
    """The foe that asks along a row, and then is done."""
    return lambda past: row[len(past)] if len(past) < len(row) else None


class MetTest(unittest.TestCase):
    """Point 5.1: met."""

    def test_kept(self):
        wanted = (("give", 0, 0), ("back", 0), ("give", 0, 1), ("back", 0), ("give", 0, 0))
        self.assertEqual(met(least, to_and_fro, ONE, 2, 3), (wanted, "kept"))
        self.assertEqual(met(least, to_and_fro, ONE, 2, 1), (wanted[:1], "kept"))
        past, word = met(least, to_and_fro, ONE, 2, 2000)
        self.assertEqual((word, len(past)), ("kept", 3999))

    def test_most_of_none(self):
        self.assertEqual(met(never, never, R3, 1, 0), ((), "kept"))

    def test_the_foe_is_not_asked_behind_the_last_giving(self):
        def foe(past):
            self.assertLess(len(past), 3)
            return to_and_fro(past)

        self.assertEqual(met(least, foe, ONE, 2, 2)[1], "kept")

    def test_not_kept(self):
        one = (("give", 0, 0), ("back", 0))
        self.assertEqual(met(least, to_and_fro, ONE, 1, 9), (one, "stuck"))
        self.assertEqual(met(by_turns, to_and_fro, ONE, 1, 9), (one + (("give", 0, 0),), "barred"))
        for thing in NO_INTEGERS + [-1, 2, 200, 10 ** 39]:
            word = "stuck" if thing is None else "odd"
            told = met(lambda web, k, past, room: thing if past else 1, to_and_fro, ONE, 2, 2)
            self.assertEqual(told, ((("give", 0, 1), ("back", 0)), word))

    def test_not_kept_at_the_last_giving(self):
        self.assertEqual(met(by_turns, to_and_fro, ONE, 1, 2)[1], "barred")
        self.assertEqual(met(least, to_and_fro, ONE, 1, 2)[1], "stuck")
        self.assertEqual(met(least, to_and_fro, ONE, 1, 1)[1], "kept")

    def test_done(self):
        self.assertEqual(met(never, lambda past: None, R3, 4, 2000), ((), "done"))
        row = (("give", 1), ("give", 0), ("back", 1))
        self.assertEqual(met(least, by_row(row), R3, 4, 3), ((("give", 1, 0), ("give", 0, 1), ("back", 1)), "done"))
        self.assertEqual(met(least, by_row(row), R3, 4, 2), ((("give", 1, 0), ("give", 0, 1)), "kept"))

    def test_what_both_are_called_with(self):
        calls = []

        def keeper(*args):
            calls.append(args)
            return len(calls)

        def foe(*args):
            calls.append(args)
            return (("give", 1), ("give", 0), ("back", 1), ("give", 2), None)[len(args[0])]

        past, word = met(keeper, foe, R3, 9, 7)
        self.assertEqual((past, word), ((("give", 1, 2), ("give", 0, 4), ("back", 1), ("give", 2, 7)), "done"))
        wanted = [((),), (R3, 9, (), 1), (past[:1],), (R3, 9, past[:1], 0), (past[:2],), (past[:3],), (R3, 9, past[:3], 2),
                  (past,)]
        self.assertEqual(calls, wanted)

    def test_bad_foe(self):
        wrong = NO_INTEGERS[1:] + DEEP + [
            0, 1, "give", ("give",), ("give", 3), ("give", -1), ("give", True), ("give", 0), ("back", 1), ("back", False),
            ["give", 1], ("give", 1, 0), ("take", 1), (b"give", 1), ("give", "1"), ("give", None), ("give", DEEP[0]), (1, "give"),
            0.5, ("give", 1.0),
        ]
        for thing in wrong:
            for index, row in ((0, []), (1, [("give", 0)]), (4, [("give", 0), ("back", 0)] * 2)):
                if index == 1 or repr(thing) != "('give', 0)":
                    with self.assertRaises(BadFoe) as caught:
                        met(least, by_row(row + [thing]), R3, 4, 2000)
                    self.assertEqual(caught.exception.index, index)

    def test_a_bad_ask_that_does_not_come(self):
        self.assertEqual(met(least, by_row([("give", 0), 0]), R3, 4, 1)[1], "kept")
        self.assertEqual(met(by_turns, by_row([("give", 0), ("give", 1), 0]), R3, 1, 9)[1], "barred")

    def test_errors_in_their_order(self):
        bad = by_row([0])
        for k in NO_TAG_COUNTS:
            self.assertRaises(NoTags, met, never, never, R3, k, 5)
            self.assertRaises(NoTags, met, never, bad, R3, k, -1)
        for most in NO_INTEGERS + [-1, 2001, 10 ** 39]:
            self.assertRaises(NoNumber, met, never, never, R3, 200, most)
            self.assertRaises(NoNumber, met, never, bad, R3, 1, most)

    def test_errors_of_both_go_on(self):
        def broken(*args):
            raise KeyError(len(args))

        self.assertRaises(KeyError, met, broken, to_and_fro, R3, 4, 1)
        self.assertRaises(KeyError, met, least, broken, R3, 4, 1)

    def test_as_led_along_the_same_row(self):
        dice = rng(131)
        for seed in range(60):
            web = random_web(dice, 5, 2)
            k = dice.randint(1, 6)
            keeper = dice.choice(list(ALL_KINDS.values()))
            asks = [deed[:2] for deed in random_story(dice, web, 99, dice.randrange(20), False).past]
            past, word = met(keeper, by_row(asks), web, k, 2000)
            told = led(keeper, web, k, asks)
            self.assertEqual((past, word), (told[0], "done" if told[1] == "kept" else told[1]))


def beats_all(test, foe, web, k, most):
    """Meet a foe with all tags that are not barred at once, and tell how many givings were kept at most."""
    def longest(past, standing, givings):
        test.assertLess(givings, most)
        ask = foe(past)
        if ask[0] == "back":
            return longest(past + (ask,), after(web, standing, ask), givings)
        out = barred(web, standing, ask[1])
        deeds = [ask + (tag,) for tag in range(k) if tag not in out]
        return max([longest(past + (deed,), after(web, standing, deed), givings + 1) for deed in deeds], default=givings)

    return longest((), begun(web), 0)


class ToldFoeTest(unittest.TestCase):
    """Point 5.2: told_foe."""

    def check(self, foe, web, k, most):
        for name, keeper in ALL_KINDS.items():
            past, word = met(keeper, foe, web, k, most)
            self.assertIn(word, ("barred", "stuck", "odd"), name)
            self.assertTrue(is_past(web, k, past))
            self.assertEqual(first_barred(web, past), len(past) - 1 if word == "barred" else None)

    def test_keepers_of_all_kinds(self):
        dice = rng(137)
        webs = [R3, ONE, row_web(2, 0), ring_web(5, 1), grid_web(3, 3, 2), sided_web((3, 4), 1), row_web(1, 30)]
        webs += [random_web(dice, 10, 5) for _ in range(60)]
        for web in webs:
            needed = least_needed(web)
            for k in sorted({needed - 1, needed - 2, 1} - {0, -1}):
                if k < needed:
                    self.check(told_foe(web, k), web, k, most_givings(web))

    def test_sixty_rooms(self):
        for web in (
            Web((30,) * 60, tuple((0, room) for room in range(1, 60))), grid_web(6, 10, 30), sided_web((8,) * 7, 3),
            Web(tuple(range(30)) * 2, tuple((one, 59) for one in range(59))),
        ):
            k = least_needed(web) - 1
            self.check(told_foe(web, k), web, k, most_givings(web))

    def test_all_tags_that_are_not_barred(self):
        for web in (
            R3, ONE, row_web(2, 0), row_web(2, 1), row_web(1, 3), ring_web(3, 0), ring_web(4, 0), Web((1, 0, 1, 2), ((0, 1), (0, 2), (0, 3))),
            Web((0, 0, 1, 2), ((0, 1), (0, 2), (0, 3), (1, 2))), Web((2, 0, 0), ((0, 1), (0, 2))), Web((0, 2, 2), ()),
        ):
            for k in range(1, least_needed(web)):
                beats_all(self, told_foe(web, k), web, k, most_givings(web))

    def test_the_bound_is_reached(self):
        # The keeper that shows tags again wherever it can holds out as long as it is told.
        self.assertEqual(beats_all(self, told_foe(R3, 3), R3, 3, most_givings(R3)), most_givings(R3) - 1)

    def test_needed_and_one_fewer(self):
        for web in (R3, ONE, ring_web(5, 2), Web((4, 0), ((0, 1),))):
            needed = least_needed(web)
            told_foe(web, needed - 1)
            for k in (needed, needed + 1, 200):
                self.assertRaises(NotFew, told_foe, web, k)
        self.assertRaises(NotFew, told_foe, Web((0, 0), ()), 1)

    def test_with_needed_tags_one_is_kept(self):
        for web in (R3, ring_web(4, 1), grid_web(3, 3, 0)):
            k = least_needed(web)
            for most in (most_givings(web), 300):
                self.assertEqual(met(told_keeper(web, k), told_foe(web, k - 1), web, k, most)[1], "kept")

    def test_no_tags_goes_ahead(self):
        for k in NO_TAG_COUNTS:
            self.assertRaises(NoTags, told_foe, R3, k)

    def test_equal_calls(self):
        past = met(longest_ago, told_foe(R3, 3), R3, 3, 2)[0]
        self.assertEqual(told_foe(R3, 3)(past), told_foe(row_web(3, 1), 3)(past))


class SidedFoeTest(unittest.TestCase):
    """Point 5.2: sided_foe."""

    check = ToldFoeTest.check

    def test_keepers_of_all_kinds(self):
        dice = rng(139)
        sides = [((1,), 2), ((5,), 3), ((1, 1), 0), ((2, 3), 1), ((3, 3, 3), 0), ((3, 3, 3), 1), ((1, 6), 2), ((4, 2, 1), 1)]
        sides += [(tuple(dice.randint(1, 6) for _ in range(dice.randint(1, 6))), dice.randint(0, 4)) for _ in range(40)]
        for sizes, memory in sides:
            number = sided_number(sizes, memory)
            for k in sorted({number - 1, number - 2, 1} - {0, -1}):
                if k < number:
                    self.check(sided_foe(sizes, memory, k), sided_web(sizes, memory), k, 2000)

    def test_large_sides(self):
        for sizes, memory in (((29, 31), 30), ((20, 20, 20), 30), ((7,) * 8, 2), ((59, 1), 30), ((1, 59), 0), ((60,), 30)):
            k = sided_number(sizes, memory) - 1
            if k > 0:
                self.check(sided_foe(sizes, memory, k), sided_web(sizes, memory), k, 2000)

    def test_all_tags_that_are_not_barred(self):
        for sizes, memory in (((1, 1), 0), ((2, 2), 0), ((2, 2), 1), ((1, 1, 1), 0), ((1, 2, 2), 0), ((2, 1, 1), 1), ((3,), 2)):
            for k in range(1, sided_number(sizes, memory)):
                beats_all(self, sided_foe(sizes, memory, k), sided_web(sizes, memory), k, 12)

    def test_beats_more_than_the_told_one(self):
        web = sided_web((2, 2, 2), 0)
        self.assertEqual((least_needed(web), sided_number((2, 2, 2), 0)), (2, 3))
        self.assertRaises(NotFew, told_foe, web, 2)
        self.check(sided_foe((2, 2, 2), 0, 2), web, 2, 2000)

    def test_the_number_and_one_fewer(self):
        for sizes, memory in (((1,), 2), ((2, 3), 1), ((1, 1, 1), 0), ((10, 20, 30), 9)):
            number = sided_number(sizes, memory)
            sided_foe(sizes, memory, number - 1)
            for k in (number, number + 1, 200):
                self.assertRaises(NotFew, sided_foe, sizes, memory, k)
            keeper = sided_keeper(sizes, memory, number)
            foe = sided_foe(sizes, memory, number - 1)
            self.assertEqual(met(keeper, foe, sided_web(sizes, memory), number, 300)[1], "kept")
        self.assertRaises(NotFew, sided_foe, (60,), 0, 1)

    def test_errors_in_their_order(self):
        for sizes in [(), (0,), (61,), (30, 31), (1,) * 9, [1, 1], 2] + NO_TUPLES + DEEP:
            self.assertRaises(NoNumber, sided_foe, sizes, 0, 1)
            self.assertRaises(NoNumber, sided_foe, sizes, 99, 0)
        for memory in NO_INTEGERS + [-1, 31, 10 ** 39]:
            self.assertRaises(NoNumber, sided_foe, (2, 3), memory, 1)
            self.assertRaises(NoNumber, sided_foe, (2, 3), memory, True)
        for k in NO_TAG_COUNTS:
            self.assertRaises(NoTags, sided_foe, (2, 3), 1, k)


class AnyPastTest(unittest.TestCase):
    """Point 5.2: the foes ask for what can be done, whatever came ahead."""

    def test_behind_any_past(self):
        dice = rng(149)
        for _ in range(100):
            web = random_web(dice, 6, 3)
            if least_needed(web) > 1:
                past = random_story(dice, web, 5, dice.randrange(30), False).past
                foe = told_foe(web, least_needed(web) - 1)
                row = [deed[:2] for deed in past] + [foe(past)]
                self.assertIn(led(drawing(3), web, 200, row)[1], ("kept", "stuck"))


if __name__ == "__main__":
    unittest.main()
