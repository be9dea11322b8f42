import unittest

from helpers import DEEP, NO_INTEGERS, NO_TAG_COUNTS, ODD_ONES, random_web, rng
from keeping import falling, greatest_steady, hashed, least_steady
from plain import clean_standings, kept_steps, levels, plain_walked
from staletags.errors import NoTags, TooMany
from staletags.keepers import by_table, led, steadily
from staletags.settling import settled
from staletags.standings import begun
from staletags.walks import is_table, walked
from staletags.webs import Web, row_web

R2 = row_web(2, 1)
R3 = row_web(3, 1)
ONE = row_web(1, 1)
ASYM = Web((3, 0), ())


def never(web, k, standing, room):
    raise AssertionError("the keeper was asked")


def too_many(test, most, call, *args):
    with test.assertRaises(TooMany) as caught:
        call(*args)
    test.assertEqual(caught.exception.most, most)


class WalkedTest(unittest.TestCase):
    """Point 3.2: walked."""

    def test_right(self):
        free, held = False, True
        self.assertEqual(walked(least_steady, row_web(1, 0), 1), (
            "right", [((free, ()),), ((free, (0,)),), ((held, (0,)),)]))
        self.assertEqual(walked(least_steady, ONE, 2), ("right", [
            ((free, ()),), ((free, (0,)),), ((free, (1,)),), ((held, (0,)),), ((held, (1,)),)]))
        self.assertEqual(walked(least_steady, row_web(2, 0), 2)[0], "right")

    def test_falls(self):
        row = (("give", 0), ("back", 0), ("give", 0))
        self.assertEqual(walked(least_steady, ONE, 1), ("falls", row, "stuck"))
        self.assertEqual(walked(lambda web, k, standing, room: 0, ONE, 1), ("falls", row, "barred"))
        self.assertEqual(walked(lambda web, k, standing, room: 1, ONE, 1), ("falls", (("give", 0),), "odd"))
        self.assertEqual(walked(lambda web, k, standing, room: None, R3, 1), ("falls", (("give", 0),), "stuck"))
        self.assertEqual(walked(lambda web, k, standing, room: room, R3, 2), ("falls", (("give", 2),), "odd"))

    def test_words(self):
        for thing in NO_INTEGERS + [-1, 2, 200, 10 ** 39, 0.5, {0}]:
            told = walked(lambda web, k, standing, room: thing, R2, 2)
            self.assertEqual(told, ("falls", (("give", 0),), "stuck" if thing is None else "odd"))

    def test_least_of_the_shortest(self):
        # Behind (give 0), (give 2) and behind (give 1) alike a fall comes by two asks; "back" is less than "give".
        told = walked(lambda web, k, standing, room: 0, R3, 1)
        self.assertEqual(told, ("falls", (("give", 0), ("give", 1)), "barred"))
        self.assertEqual(walked(greatest_steady, R3, 1), ("falls", (("give", 0), ("give", 1)), "stuck"))
        once = falling(least_steady, {(((True, (0,)), (False, ()), (True, (0,))), 1)})
        self.assertEqual(walked(once, R3, 4), ("falls", (("give", 0), ("give", 2), ("give", 1)), "stuck"))
        twice = falling(least_steady, {(((False, (0,)), (False, ())), 1), (((True, (0,)), (True, (1,))), 0),
                                       (((True, (0,)), (False, (1,))), 1)})
        row = (("give", 0), ("back", 0), ("give", 1))
        self.assertEqual(walked(twice, R2, 4), ("falls", row, "stuck"))

    def test_what_the_keeper_is_called_with(self):
        calls = []

        def steady(*args):
            calls.append(args)
            return least_steady(*args)

        _, standings = walked(steady, R2, 4)
        self.assertIs(calls[0][0], R2)
        self.assertEqual({args[1] for args in calls}, {4})
        wanted = {(standing, room) for standing in standings for room in (0, 1) if not standing[room][0]}
        self.assertEqual({args[2:] for args in calls}, wanted)

    def test_errors_of_the_keeper_go_on(self):
        def steady(web, k, standing, room):
            raise KeyError(room)

        self.assertRaises(KeyError, walked, steady, R2, 3)

    def test_against_the_plain_reading(self):
        dice = rng(61)
        words = []
        for seed in range(150):
            web = random_web(dice, 3, 2)
            k = dice.randint(1, 5)
            steady = hashed(seed)
            if dice.random() < 0.5:
                standing = dice.choice(sorted(clean_standings(web, min(k, 2))))
                steady = falling(steady, {(standing, 0), (standing, 1)}, dice.choice([None, 0, k, "x"]))
            wanted, many = plain_walked(steady, web, k)
            words.append(wanted[-1] if wanted[0] == "falls" else "right")
            if many > 3000:
                too_many(self, 3000, walked, steady, web, k)
            else:
                self.assertEqual(walked(steady, web, k), wanted)
            if wanted[0] == "falls":
                self.assertEqual(led(steadily(steady), web, k, wanted[1])[1], wanted[2])
                self.assertEqual(led(steadily(steady), web, k, wanted[1][:-1])[1], "kept")
        self.assertEqual(set(words), {"right", "stuck", "barred", "odd"})

    def test_no_tags(self):
        for k in NO_TAG_COUNTS:
            self.assertRaises(NoTags, walked, never, R3, k)
        self.assertRaises(NoTags, walked, never, row_web(60, 0), 201)

    def test_one_tag_and_two_hundred(self):
        self.assertEqual(walked(least_steady, Web((0, 0), ()), 1)[0], "right")
        told, standings = walked(lambda web, k, standing, room: 199, row_web(1, 0), 200)
        self.assertEqual((told, standings[1:]), ("right", [((False, (199,)),), ((True, (199,)),)]))


class WalkedBoundTest(unittest.TestCase):
    """Point 3.2: 3000 standings, and one more."""

    def test_right_with_just_so_many(self):
        for seed, many in ((1002599, 3000), (1000929, 3001)):
            wanted, counted = plain_walked(hashed(seed), ASYM, 6)
            self.assertEqual((wanted[0], counted), ("right", many))
            if many == 3000:
                self.assertEqual(walked(hashed(seed), ASYM, 6), wanted)
            else:
                too_many(self, 3000, walked, hashed(seed), ASYM, 6)

    def fall_at(self, seed, many):
        """A keeper that falls at a place of the first level by which so many standings came."""
        counted = 0
        for level in levels(begun(ASYM), lambda standing: kept_steps(hashed(seed), ASYM, 7, standing)):
            counted += len(level)
            if counted >= many:
                self.assertEqual(counted, many)
                places = sorted((standing, 1) for standing in level if not standing[1][0])
                return falling(hashed(seed), {places[len(places) // 2]}, 7)

    def test_falls_with_just_so_many_ahead(self):
        steady = self.fall_at(1002190, 3000)
        wanted, counted = plain_walked(steady, ASYM, 7)
        self.assertEqual((wanted[0], wanted[2], counted), ("falls", "odd", 3000))
        self.assertEqual(walked(steady, ASYM, 7), wanted)
        too_many(self, 3000, walked, self.fall_at(1004887, 3001), ASYM, 7)

    def test_large_webs(self):
        big = row_web(60, 1)
        too_many(self, 3000, walked, least_steady, big, 4)
        # Of one ask are 60 standings, of two 1770 and 60 more: the fall at the third ask comes in time.
        third = walked(lambda web, k, standing, room: 0 if sum(h for h, _ in standing) < 2 else 9, Web((0,) * 60, ()), 4)
        self.assertEqual(third, ("falls", (("give", 0), ("give", 1), ("give", 2)), "odd"))
        late = falling(lambda web, k, standing, room: 0, {(((True, (0,)),) * 4 + ((False, ()),) * 56, 59)})
        too_many(self, 3000, walked, late, Web((0,) * 60, ()), 4)
        # Not asked behind the third ask any more.

        def steady(web, k, standing, room):
            self.assertLess(sum(held for held, _ in standing), 3)
            return 0

        too_many(self, 3000, walked, steady, Web((0,) * 60, ()), 4)


class TableTest(unittest.TestCase):
    """Point 3.2: is_table."""

    one = {(((False, ()),), 0): 0, (((False, (0,)),), 0): 1, (((False, (1,)),), 0): 0}

    def test_tables(self):
        self.assertIs(is_table(ONE, 2, self.one), True)
        self.assertIs(is_table(ONE, 3, self.one), True)
        self.assertIs(is_table(ONE, 1, self.one), False)
        self.assertIs(is_table(row_web(1, 0), 1, {(((False, ()),), 0): 0, (((False, (0,)),), 0): 0}), True)
        self.assertIs(is_table(ONE, 2, {}), False)

    def test_more_entries_do_no_harm(self):
        more = {
            (((True, (0,)),), 0): 0, (((True, (1,)),), 0): 1, (((False, (2,)),), 0): 2, (((True, (2,)),), 0): 2,
        }
        self.assertIs(is_table(ONE, 3, {**self.one, **more}), True)
        self.assertIs(is_table(ONE, 2, {**self.one, (((True, (0,)),), 0): 0}), True)
        for tag in (-1, 3, True, None):
            self.assertIs(is_table(ONE, 3, {**self.one, (((True, (0,)),), 0): tag}), False)
        # Not below k, there or in the standing.
        self.assertIs(is_table(ONE, 2, {**self.one, **more}), False)
        self.assertIs(is_table(ONE, 2, {**self.one, (((True, (0,)),), 0): 2}), False)

    def test_one_entry_changed(self):
        for web, k in ((R2, 3), (row_web(3, 0), 2), (Web((2, 0), ()), 3), (Web((0, 1), ()), 2), (row_web(1, 3), 5)):
            table = settled(web, k)[1]
            self.assertIs(is_table(web, k, table), True)
            for place in table:
                less = {**table}
                del less[place]
                self.assertIs(is_table(web, k, less), walked(by_table(less), web, k)[0] == "right")
                for tag in range(k):
                    other = {**table, place: tag}
                    self.assertIs(is_table(web, k, other), plain_walked(by_table(other), web, k)[0][0] == "right")
                for tag in (k, -1, None, True, False, "0", (0,), [0], 0.0):
                    self.assertIs(is_table(web, k, {**table, place: tag}), False)

    def test_keys_that_are_none(self):
        free, start = False, ((False, ()),)
        for key in [
            0, "key", None, (), (start,), (start, 1), (start, -1), (start, None), (start, 0, 0),
            (((free, ()), (free, ())), 0), ((), 0), (((free,),), 0), (((free, (), ()),), 0),
            (((None, ()),), 0), (((True, ()),), 0), (((1, (0,)),), 0), (((free, (0, 1)),), 0), (((free, (2,)),), 0),
            (((free, (-1,)),), 0), (((free, 0),), 0), (((free, "a"),), 0), ((free, ()), 0),
            (((free, ((),)),), 0), (frozenset(), 0), (0, start), (begun(R2), 0), (((free, (10 ** 39,)),), 0),
        ]:
            self.assertIs(is_table(ONE, 2, {**self.one, key: 0}), False, key)

    def test_flags_in_keys(self):
        # Python takes these keys for equal to ones of a table.
        for key in [(((False, ()),), False), (((0, ()),), 0), (((False, (False,)),), 0), (((False, (True,)),), 0)]:
            others = {place: tag for place, tag in self.one.items() if place != key}
            self.assertEqual(len(others), 2)
            self.assertIs(is_table(ONE, 2, {**others, key: self.one[key]}), False)

    def test_a_standing_with_tags_given_twice_has_the_form(self):
        web = row_web(1, 2)
        table = settled(web, 3)[1]
        self.assertIs(is_table(web, 3, {**table, (((False, (1, 1)),), 0): 1}), True)
        self.assertIs(is_table(web, 3, {**table, (((False, (1, 1, 0)),), 0): 1}), False)

    def test_tied_rooms_that_show_one_tag_have_the_form(self):
        table = settled(R2, 3)[1]
        self.assertIs(is_table(R2, 3, {**table, (((True, (1,)), (True, (1,))), 0): 1}), True)

    def test_strange_things(self):
        for thing in ODD_ONES + DEEP + [0, 1, [], (), list(self.one.items()), tuple(self.one)]:
            self.assertIs(is_table(ONE, 2, thing), False)
            self.assertIs(is_table(ONE, 2, {**self.one, (((False, ()),), 0): thing}), type(thing) is int)
        for thing in [None, True, "a", b"give", DEEP[0], TooMany, TooMany(3), len, range(2)]:
            self.assertIs(is_table(ONE, 2, {thing: 0}), False)
            self.assertIs(is_table(ONE, 2, {**self.one, (thing, 0): 0}), False)
            self.assertIs(is_table(ONE, 2, {**self.one, (((False, thing),), 0): 0}), False)
            self.assertIs(is_table(ONE, 2, {**self.one, (((thing, (0,)),), 0): 0}), thing is True)
            self.assertIs(is_table(ONE, 2, {**self.one, (((False, (0,)),), thing): 0}), False)

    def test_large(self):
        self.assertIs(is_table(ONE, 2, {number: 0 for number in range(19999)}), False)
        self.assertIs(is_table(ONE, 2, {(((False, (number,)),), 0): 0 for number in range(19999)}), False)

    def test_no_tags_and_too_many_ahead_of_all_judging(self):
        for k in NO_TAG_COUNTS:
            self.assertRaises(NoTags, is_table, ONE, k, self.one)
            self.assertRaises(NoTags, is_table, row_web(60, 0), k, None)
        for thing in (None, {}, self.one, {0: 0}, 7, DEEP[0]):
            too_many(self, 3000, is_table, row_web(60, 0), 3, thing)
        # 2998 and 3221 standings come by tags that are not barred.
        self.assertIs(is_table(row_web(2, 0), 27, None), False)
        too_many(self, 3000, is_table, row_web(2, 0), 28, None)


if __name__ == "__main__":
    unittest.main()
