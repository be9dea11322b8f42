import unittest

from helpers import DEEP, NO_INTEGERS, NO_TAG_COUNTS, NO_TUPLES, Story, random_web, rng
from staletags.errors import NoRow, NoTags
from staletags.keepers import by_table, is_row, led, steadily
from staletags.standings import barred, begun, first_barred, is_past, standing_of
from staletags.webs import Web, row_web

R3 = row_web(3, 1)


def least_steady(web, k, standing, room):
    """The steady keeper that returns the least tag that is not barred."""
    out = barred(web, standing, room)
    free = [tag for tag in range(k) if tag not in out]
    return free[0] if free else None


def zero(web, k, past, room):
    return 0


def never(web, k, past, room):
    raise AssertionError("the keeper was asked")


def random_row(dice, web, asks):
    held = [False] * len(web.memories)
    row = []
    for _ in range(asks):
        room = dice.randrange(len(held))
        row.append(("back" if held[room] else "give", room))
        held[room] = not held[room]
    return row


NO_ROWS = [
    (0, (("back", 0),)), (1, (("give", 0), ("give", 0))), (2, (("give", 0), ("back", 0), ("back", 0))),
    (1, (("give", 0), ("back", 1))), (0, (("give", 3),)), (0, (("give", -1),)), (0, (("give", 0, 0),)),
    (0, (("give",),)), (0, ((),)), (0, (["give", 0],)), (0, [["give", 0]]), (1, [("give", 0), ("back", False)]),
    (0, [("give", True)]), (0, [("take", 0)]), (0, [(b"give", 0)]), (0, ("give", 0)), (0, [None]),
    (1, [("give", 0), "back", ("back", 0)]), (0, (("give", "0"),)), (3, [("give", 0), ("back", 0), ("give", 0), 7]),
    (0, ((("give", 0),),)),
]


class RowTest(unittest.TestCase):
    """Point 3.1: is_row, and how led looks at rows."""

    def no_row(self, index, row):
        self.assertIs(is_row(R3, row), False)
        with self.assertRaises(NoRow) as caught:
            led(never, R3, 3, row)
        self.assertEqual(caught.exception.index, index)

    def test_rows(self):
        for row in [(), (("give", 0),), (("give", 0), ("give", 2), ("back", 0), ("give", 0), ("back", 2))]:
            self.assertIs(is_row(R3, row), True)
            self.assertIs(is_row(R3, list(row)), True)

    def test_what_is_none(self):
        for index, row in NO_ROWS:
            with self.subTest(row):
                self.assertIs(is_row(R3, row), False)

    def test_strange_things(self):
        for thing in NO_TUPLES:
            if not isinstance(thing, list):
                self.no_row(-1, thing)
        for thing in NO_TUPLES + DEEP:
            self.no_row(0, [thing])
            if not isinstance(thing, str):
                self.no_row(0, ((thing, 0),))
        for thing in NO_INTEGERS:
            self.no_row(0, (("give", thing),))
        self.no_row(0, DEEP[0])
        self.no_row(0, DEEP[1])

    def test_random_rows(self):
        dice = rng(43)
        for _ in range(50):
            web = random_web(dice)
            row = random_row(dice, web, 30)
            self.assertIs(is_row(web, row), True)
            self.assertIs(is_row(web, tuple(row)), True)
            at = dice.randrange(30)
            self.assertIs(is_row(web, row[:at + 1] + row[at:]), False)

    def test_long_row(self):
        row = [("give", 1), ("back", 1)] * 3000
        self.assertIs(is_row(R3, row), True)
        self.assertIs(is_row(R3, row + [("back", 1)]), False)


class LedTest(unittest.TestCase):
    """Point 3.1: led."""

    def test_kept(self):
        row = (("give", 0), ("give", 1), ("back", 0), ("give", 0), ("give", 2))
        past, word = led(steadily(least_steady), R3, 4, row)
        self.assertEqual(word, "kept")
        self.assertEqual(past, (("give", 0, 0), ("give", 1, 1), ("back", 0), ("give", 0, 2), ("give", 2, 0)))

    def test_rows_that_are_lists_and_tuples(self):
        row = [("give", 0), ("give", 1), ("back", 0)]
        wanted = ((("give", 0, 0), ("give", 1, 1), ("back", 0)), "kept")
        self.assertEqual(led(steadily(least_steady), R3, 2, row), wanted)
        self.assertEqual(led(steadily(least_steady), R3, 2, tuple(row)), wanted)
        self.assertEqual(row, [("give", 0), ("give", 1), ("back", 0)])

    def test_empty_row(self):
        for row in ((), []):
            self.assertEqual(led(never, R3, 1, row), ((), "kept"))

    def test_barred_by_a_tied_room(self):
        row = (("give", 2), ("give", 1), ("back", 1))
        self.assertEqual(led(zero, R3, 1, row), ((("give", 2, 0), ("give", 1, 0)), "barred"))

    def test_barred_by_its_own_last_tag(self):
        row = (("give", 2), ("back", 2), ("give", 2), ("back", 2))
        self.assertEqual(led(zero, R3, 1, row), ((("give", 2, 0), ("back", 2), ("give", 2, 0)), "barred"))
        self.assertEqual(led(zero, row_web(3, 0), 1, row)[1], "kept")

    def test_stuck(self):
        row = (("give", 0), ("give", 1), ("give", 2))
        self.assertEqual(led(steadily(least_steady), R3, 1, row), ((("give", 0, 0),), "stuck"))
        self.assertEqual(led(lambda web, k, past, room: None, R3, 1, row), ((), "stuck"))

    def test_odd(self):
        row = (("give", 0), ("give", 2))
        for thing in NO_INTEGERS + [-1, 3, 200, 10 ** 39, 1.0, 0.0, {0}, frozenset()]:
            if thing is not None:
                told = led(lambda web, k, past, room: thing if past else 1, R3, 3, row)
                self.assertEqual(told, ((("give", 0, 1),), "odd"))

    def test_odd_goes_ahead_of_barred(self):
        # What is no tag below k is odd, though a flag equals a tag that is barred.
        told = led(lambda web, k, past, room: True if past else 1, R3, 3, (("give", 0), ("give", 1)))
        self.assertEqual(told, ((("give", 0, 1),), "odd"))

    def test_tags_just_below_k(self):
        for k in (1, 2, 200):
            told = led(lambda web, k, past, room: k - 1, R3, k, (("give", 0), ("back", 0)))
            self.assertEqual(told, ((("give", 0, k - 1), ("back", 0)), "kept"))
            told = led(lambda web, k, past, room: k, R3, k, (("give", 0),))
            self.assertEqual(told, ((), "odd"))

    def test_what_the_keeper_is_called_with(self):
        calls = []

        def keeper(*args):
            calls.append(args)
            return len(calls) - 1

        led(keeper, R3, 9, [("give", 2), ("back", 2), ("give", 0), ("give", 1)])
        first = (("give", 2, 0), ("back", 2))
        wanted = [(R3, 9, (), 2), (R3, 9, first, 0), (R3, 9, first + (("give", 0, 1),), 1)]
        self.assertEqual(calls, wanted)
        self.assertIs(calls[0][0], R3)

    def test_not_asked_again_behind_its_fall(self):
        calls = []

        def keeper(web, k, past, room):
            calls.append(room)
            return [0, 0, 7][len(calls) - 1]

        led(keeper, R3, 3, (("give", 0), ("give", 1), ("give", 2)))
        self.assertEqual(calls, [0, 1])

    def test_errors_in_their_order(self):
        for k in NO_TAG_COUNTS:
            self.assertRaises(NoTags, led, never, R3, k, ())
            self.assertRaises(NoTags, led, never, R3, k, None)
            self.assertRaises(NoTags, led, never, R3, k, (("back", 0),))
        for index, row in NO_ROWS:
            with self.assertRaises(NoRow) as caught:
                led(never, R3, 200, row)
            self.assertEqual(caught.exception.index, index)

    def test_the_row_is_judged_ahead_of_the_keeper(self):
        with self.assertRaises(NoRow) as caught:
            led(zero, R3, 1, (("give", 0), ("give", 1), ("give", 1)))
        self.assertEqual(caught.exception.index, 2)

    def test_errors_of_the_keeper_go_on(self):
        class Own(Exception):
            pass

        def keeper(web, k, past, room):
            raise Own()

        self.assertRaises(Own, led, keeper, R3, 3, (("give", 0),))

        def no_row(web, k, past, room):
            raise NoRow(5)

        with self.assertRaises(NoRow) as caught:
            led(no_row, R3, 3, (("give", 0),))
        self.assertEqual(caught.exception.index, 5)

    def test_a_keeper_that_changes_the_row(self):
        row = [("give", 0), ("give", 2)]

        def keeper(web, k, past, room):
            row.clear()
            return 0

        self.assertEqual(led(keeper, R3, 1, row), ((("give", 0, 0), ("give", 2, 0)), "kept"))

    def test_against_the_plain_reading(self):
        dice = rng(47)
        words = set()
        for _ in range(300):
            web = random_web(dice)
            k = dice.randint(1, 9)
            row = random_row(dice, web, dice.randrange(25))
            seed = dice.random()

            def keeper(web, k, past, room):
                own = rng(repr((seed, past, room)))
                free = [tag for tag in range(k) if tag not in Story(web, past).barred(room)]
                if own.random() < 0.95 and free:
                    return own.choice(free)
                return own.choice([None, k, own.randrange(k)])

            past, word = led(keeper, web, k, row)
            words.add(word)
            self.assertTrue(is_past(web, k, past))
            self.assertEqual([deed[:2] for deed in past], row[:len(past)])
            wrong = first_barred(web, past)
            if word == "barred":
                self.assertEqual(wrong, len(past) - 1)
            else:
                self.assertIsNone(wrong)
                self.assertEqual(word == "kept", len(past) == len(row))
            if word in ("stuck", "odd"):
                tag = keeper(web, k, past, row[len(past)][1])
                self.assertEqual(tag, None if word == "stuck" else k)
        self.assertEqual(words, {"kept", "barred", "stuck", "odd"})


class SteadyTest(unittest.TestCase):
    """Point 3.2: steadily and by_table."""

    def test_steadily_calls_with_the_standing(self):
        calls = []

        def steady(*args):
            calls.append(args)
            return "what it returned"

        past = (("give", 0, 4), ("give", 1, 5), ("back", 0))
        self.assertEqual(steadily(steady)(R3, 7, past, 2), "what it returned")
        self.assertEqual(calls, [(R3, 7, standing_of(R3, past), 2)])
        self.assertIs(calls[0][0], R3)

    def test_steadily_passes_on_none_and_errors(self):
        self.assertIsNone(steadily(lambda web, k, standing, room: None)(R3, 7, (), 2))

        def steady(web, k, standing, room):
            raise KeyError(room)

        self.assertRaises(KeyError, steadily(steady), R3, 7, (), 2)

    def test_by_table(self):
        held = ((True, (1,)), (False, ()), (False, ()))
        steady = by_table({(begun(R3), 0): 1, (held, 2): 0})
        self.assertEqual(steady(R3, 3, begun(R3), 0), 1)
        self.assertEqual(steady(R3, 3, held, 2), 0)
        self.assertIsNone(steady(R3, 3, held, 1))
        self.assertIsNone(steady(R3, 3, begun(R3), 2))
        self.assertIsNone(by_table({})(R3, 3, begun(R3), 0))

    def test_by_table_tells_what_stands_there(self):
        # Whether it is right, or below k, is not its business.
        self.assertEqual(by_table({(begun(R3), 0): 150})(R3, 3, begun(R3), 0), 150)

    def test_led_by_a_table(self):
        one = row_web(1, 1)
        table = {(begun(one), 0): 0, (((False, (0,)),), 0): 1, (((False, (1,)),), 0): 0}
        row = [("give", 0), ("back", 0)] * 3
        past, word = led(steadily(by_table(table)), one, 2, row)
        self.assertEqual((word, [deed[2] for deed in past[::2]]), ("kept", [0, 1, 0]))
        del table[(((False, (1,)),), 0)]
        past, word = led(steadily(by_table(table)), one, 2, row)
        self.assertEqual((word, len(past)), ("stuck", 4))

    def test_the_table_is_copied_and_not_changed(self):
        table = {(begun(R3), 0): 1}
        steady = by_table(table)
        self.assertIsNone(steady(R3, 3, begun(R3), 1))
        self.assertEqual(table, {(begun(R3), 0): 1})
        table.clear()
        self.assertEqual(steady(R3, 3, begun(R3), 0), 1)

    def test_sixty_rooms(self):
        web = Web((0,) * 60, tuple((0, room) for room in range(1, 60)))
        row = [("give", room) for room in range(60)]
        past, word = led(steadily(least_steady), web, 2, row)
        self.assertEqual((word, [deed[2] for deed in past]), ("kept", [0] + [1] * 59))


if __name__ == "__main__":
    unittest.main()
