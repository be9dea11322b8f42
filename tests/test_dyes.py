import itertools
import unittest

from helpers import DEEP, NO_INTEGERS, NO_TAG_COUNTS, NO_TUPLES, random_web, rng
from keeping import drawn
from staletags.counts import ring_dyed
from staletags.dyes import blind_row, blindly, dyeing, in_turn, is_dyeing, least_dyed
from staletags.errors import NoNumber, NoTags, TooMany
from staletags.keepers import is_row, led
from staletags.webs import Web, ring_web, row_web, sided_web
from test_keepers import random_row

R2 = row_web(2, 1)
R3 = row_web(3, 1)
ONE = row_web(1, 1)


def never(*args):
    raise AssertionError("a function was called")


def plain_is_dyeing(web, lots):
    """The words of point 7.1, for tuples of ascending tuples of tags."""
    sizes = all(len(lot) == memory + 1 for lot, memory in zip(lots, web.memories))
    return len(lots) == len(web.memories) and sizes and not any(set(lots[a]) & set(lots[b]) for a, b in web.ties)


def dyeings_by_trial(web, k):
    """All dyeings, found by trying all lots."""
    choices = [list(itertools.combinations(range(k), memory + 1)) for memory in web.memories]
    return [lots for lots in itertools.product(*choices) if plain_is_dyeing(web, lots)]


def by_sequences(sequences):
    """The unseeing keeper that gives each room the tags of a list, again and again."""
    return lambda web, k, room, tags: sequences[room][len(tags) % len(sequences[room])]


class BlindlyTest(unittest.TestCase):
    """Point 7.1: blindly and in_turn."""

    def test_what_is_called(self):
        calls = []

        def unseeing(*args):
            calls.append(args)
            return "what it returned"

        past = (("give", 0, 4), ("give", 1, 5), ("back", 0), ("give", 0, 6), ("give", 2, 6), ("back", 0))
        self.assertEqual(blindly(unseeing)(R3, 7, past, 0), "what it returned")
        self.assertEqual(blindly(unseeing)(R3, 7, (), 1), "what it returned")
        self.assertEqual(calls, [(R3, 7, 0, (4, 6)), (R3, 7, 1, ())])
        self.assertIs(calls[0][0], R3)

    def test_all_tags_and_not_just_the_last_ones(self):
        past = tuple(deed for tag in range(50) for deed in (("give", 1, tag), ("back", 1)))
        self.assertEqual(blindly(lambda web, k, room, tags: tags)(R3, 60, past, 1), tuple(range(50)))

    def test_errors_go_on(self):
        def broken(web, k, room, tags):
            raise KeyError(room)

        self.assertRaises(KeyError, blindly(broken), R3, 7, (), 1)

    def test_in_turn(self):
        unseeing = in_turn(((0, 2, 5), (1,)))
        given = ()
        for _ in range(7):
            given += (unseeing(R2, 6, 0, given),)
        self.assertEqual(given, (0, 2, 5, 0, 2, 5, 0))
        self.assertEqual([unseeing(R2, 6, 1, (1,) * many) for many in range(3)], [1, 1, 1])
        self.assertEqual(led(blindly(unseeing), Web((2, 0), ((0, 1),)), 6, random_row(rng(1), R2, 60))[1], "kept")


class IsDyeingTest(unittest.TestCase):
    """Point 7.1: is_dyeing."""

    def test_dyeings(self):
        self.assertIs(is_dyeing(R2, 4, ((0, 1), (2, 3))), True)
        self.assertIs(is_dyeing(R2, 3, ((0, 1), (2, 3))), False)
        self.assertIs(is_dyeing(R2, 4, ((0, 3), (1, 2))), True)
        self.assertIs(is_dyeing(R2, 4, ((0, 1), (1, 2))), False)
        self.assertIs(is_dyeing(Web((1, 1), ()), 2, ((0, 1), (0, 1))), True)
        self.assertIs(is_dyeing(row_web(1, 0), 200, ((199,),)), True)
        self.assertIs(is_dyeing(row_web(1, 0), 200, ((200,),)), False)
        self.assertIs(is_dyeing(row_web(1, 0), 1, ((0,),)), True)

    def test_what_is_none(self):
        for thing in [
            (), ((0, 1),), ((0, 1), (2, 3), (4, 5)), [(0, 1), (2, 3)], ([0, 1], (2, 3)), ((0, 1), [2, 3]), ((1, 0), (2, 3)),
            ((0, 0), (2, 3)), ((0,), (2, 3)), ((0, 1), (2, 3, 4)), ((0, 1), ()), ((False, 1), (2, 3)), ((0, True), (2, 3)),
            ((-1, 1), (2, 3)), ((0, 1), (2, None)), ((0, 1), ("2", "3")), ((0, 1), "23"), ((0, 1), b"23"), ((0, 1), range(2, 4)),
            ((0, 1), (2, 10 ** 39)), (0, 1), ((0, 1), 2), ((0, 1), {2: 0, 3: 0}), ((0, 1), ((2,), (3,))),
        ]:
            self.assertIs(is_dyeing(R2, 9, thing), False, thing)

    def test_strange_things(self):
        for thing in NO_TUPLES + DEEP:
            self.assertIs(is_dyeing(ONE, 9, thing), False)
            self.assertIs(is_dyeing(ONE, 9, (thing,)), False)
        for thing in NO_INTEGERS:
            self.assertIs(is_dyeing(ONE, 9, ((thing, 5),)), False)
            self.assertIs(is_dyeing(ONE, 9, ((0, thing),)), False)
        self.assertIs(is_dyeing(ONE, 9, (tuple(range(19999)),)), False)
        self.assertIs(is_dyeing(ONE, 9, ((0, 1),) * 9999), False)

    def test_by_trial(self):
        web = Web((1, 0, 1), ((0, 1), (1, 2)))
        lots = [lot for many in range(4) for lot in itertools.product(range(3), repeat=many)]
        for thing in itertools.product(lots, repeat=3):
            ascend = all(list(lot) == sorted(set(lot)) for lot in thing)
            self.assertIs(is_dyeing(web, 3, thing), ascend and plain_is_dyeing(web, thing))

    def test_large_webs_too(self):
        web = ring_web(60, 30)
        self.assertIs(is_dyeing(web, 62, (tuple(range(31)), tuple(range(31, 62))) * 30), True)
        self.assertIs(is_dyeing(web, 61, (tuple(range(31)), tuple(range(31, 62))) * 30), False)

    def test_no_tags(self):
        for k in NO_TAG_COUNTS:
            self.assertRaises(NoTags, is_dyeing, R2, k, ((0, 1), (2, 3)))
            self.assertRaises(NoTags, is_dyeing, R2, k, None)


class DyeingTest(unittest.TestCase):
    """Point 7.1: dyeing and least_dyed."""

    def check(self, web, number):
        self.assertEqual(least_dyed(web, 200), number)
        self.assertEqual(least_dyed(web, number), number)
        if number > 1:
            self.assertIsNone(least_dyed(web, number - 1))
            self.assertIsNone(dyeing(web, number - 1))
        for k in (number, number + 1, 200):
            self.assertIs(is_dyeing(web, k, dyeing(web, k)), True)

    def test_known_ones(self):
        for web, number in [
            (R2, 4), (row_web(1, 0), 1), (row_web(1, 23), 24), (row_web(12, 1), 4), (row_web(24, 0), 2), (ring_web(5, 1), 5),
            (ring_web(3, 7), 24), (ring_web(23, 0), 3), (sided_web((3,) * 8, 0), 8), (sided_web((1,) * 8, 2), 24),
            (Web((0,) * 24, ()), 1), (Web((5, 0, 11, 2), ()), 12), (Web((3, 1, 2, 7), ((0, 1), (0, 2), (1, 2))), 9),
        ]:
            self.check(web, number)

    def test_the_ring_of_rings(self):
        # Webs that need more than their greatest heap of rooms all tied to each other: rings of odd rings.
        many, ties = 5, [(0, 1), (1, 2), (2, 3), (3, 4), (0, 4)]
        for number in (4, 5):
            ties += [pair for a, b in list(ties) for pair in ((min(a, many + b), max(a, many + b)), (b, many + a))]
            ties += [(many + room, 2 * many) for room in range(many)]
            ties = sorted({(min(pair), max(pair)) for pair in ties})
            many = 2 * many + 1
            self.check(Web((0,) * many, tuple(ties)), number)
        # Pairs of seven things, tied if they have none in common.
        pairs = list(itertools.combinations(range(7), 2))
        ties = [(a, b) for a in range(21) for b in range(a + 1, 21) if not set(pairs[a]) & set(pairs[b])]
        self.check(Web((0,) * 21, tuple(ties)), 5)

    def test_rings(self):
        for half in range(1, 12):
            for memory in range(8):
                if (2 * half + 1) * (memory + 1) <= 24:
                    self.check(ring_web(2 * half + 1, memory), ring_dyed(half, memory))

    def test_by_trial(self):
        dice = rng(151)
        for _ in range(60):
            web = random_web(dice, 4, 2)
            for k in range(1, 6):
                told = dyeings_by_trial(web, k)
                self.assertEqual(dyeing(web, k) is not None, bool(told))
                if told:
                    self.assertIn(dyeing(web, k), told)
            told = [k for k in range(1, 6) if dyeings_by_trial(web, k)]
            self.assertEqual(least_dyed(web, 5), told[0] if told else None)

    def test_by_trial_of_rooms_that_remember_none(self):
        dice = rng(157)
        for _ in range(60):
            web = random_web(dice, 7, 0)
            self.assertEqual(least_dyed(web, 3), next((k for k in (1, 2, 3) if dyeings_by_trial(web, k)), None))

    def test_large_ones(self):
        dice = rng(163)
        for _ in range(40):
            left, memories = 24, []
            while left > 0:
                many = min(left, dice.randint(1, dice.choice((1, 3, 8))))
                memories.append(many - 1)
                left -= many
            chance = dice.random()
            rooms = range(len(memories))
            web = Web(tuple(memories), tuple((a, b) for a in rooms for b in rooms if a < b and dice.random() < chance))
            number = least_dyed(web, 200)
            self.check(web, number)
            self.assertGreaterEqual(number, max([web.memories[a] + web.memories[b] + 2 for a, b in web.ties], default=1))

    def test_twenty_four_and_one_more(self):
        for web in (row_web(25, 0), Web((23, 0), ()), ring_web(5, 4), row_web(60, 30), row_web(1, 24)):
            for k in (1, 5, 200):
                with self.assertRaises(TooMany) as caught:
                    dyeing(web, k)
                self.assertEqual(caught.exception.most, 24)
                with self.assertRaises(TooMany) as caught:
                    least_dyed(web, k)
                self.assertEqual(caught.exception.most, 24)

    def test_errors_in_their_order(self):
        for k in NO_TAG_COUNTS:
            self.assertRaises(NoTags, dyeing, R2, k)
            self.assertRaises(NoTags, dyeing, row_web(60, 0), k)
            self.assertRaises(NoNumber, least_dyed, R2, k)
            self.assertRaises(NoNumber, least_dyed, row_web(60, 0), k)


class BlindRowTest(unittest.TestCase):
    """Point 7.2: blind_row, and the fact of dyeings."""

    def check(self, unseeing, web, k, many):
        row = blind_row(unseeing, web, k, many)
        if row is not None:
            self.assertIsInstance(row, tuple)
            self.assertIs(is_row(web, row), True)
            self.assertNotEqual(led(blindly(unseeing), web, k, row)[1], "kept")
            for room in range(len(web.memories)):
                self.assertLessEqual(row.count(("give", room)), many)
        return row

    def test_its_own_last_tags(self):
        web = row_web(1, 2)
        unseeing = by_sequences([(0, 1, 2, 3, 2)])
        for many in (1, 2, 3, 4):
            self.assertIsNone(blind_row(unseeing, web, 4, many))
        row = self.check(unseeing, web, 4, 5)
        self.assertEqual(row, (("give", 0), ("back", 0)) * 4 + (("give", 0),))
        self.assertIsNone(blind_row(unseeing, row_web(1, 0), 4, 60))
        # The tags after the last one of the list meet the first ones.
        self.assertIsNone(blind_row(by_sequences([(0, 1, 2)]), web, 4, 60))
        self.check(by_sequences([(0, 1)]), web, 4, 3)

    def test_stuck_and_odd(self):
        for thing in NO_INTEGERS + [-1, 4, 200, 10 ** 39]:
            unseeing = by_sequences([(0, 1), (2, thing)])
            self.assertIsNone(blind_row(unseeing, R2, 4, 1))
            self.assertIsNotNone(self.check(unseeing, R2, 4, 2))
            self.assertIsNotNone(self.check(lambda web, k, room, tags: thing, R2, 4, 1))

    def test_tied_rooms(self):
        unseeing = by_sequences([(0, 1, 2, 3), (4, 5, 6, 7, 8, 2)])
        web = Web((1, 1), ((0, 1),))
        for many in range(1, 6):
            self.assertIsNone(blind_row(unseeing, web, 9, many))
        self.assertIsNotNone(self.check(unseeing, web, 9, 6))
        self.assertIsNone(blind_row(unseeing, Web((1, 1), ()), 9, 60))
        # In one place alone, and for the last of sixty givings.
        late = by_sequences([(0, 1) * 29 + (0, 2), (3, 4) * 29 + (3, 2)])
        self.assertIsNone(blind_row(late, web, 9, 59))
        self.assertIsNotNone(self.check(late, web, 9, 60))

    def test_one_giving(self):
        self.assertEqual(sorted(self.check(by_sequences([(0,), (0,)]), row_web(2, 0), 1, 1)), [("give", 0), ("give", 1)])
        self.assertIsNone(blind_row(by_sequences([(0,), (0,)]), Web((0, 0), ()), 1, 1))

    def test_by_all_rows(self):
        dice = rng(167)
        seen = set()
        for _ in range(120):
            web = random_web(dice, 2, 2)
            k = dice.randint(2, 6)
            tags = [k, None] if dice.random() < 0.2 else []
            sequences = [[dice.choice(list(range(k)) + tags) for _ in range(7)] for _ in web.memories]
            if dice.random() < 0.6:
                sequences = [[(room * k // 2 + at % (k // 2)) for at in range(6)] for room in range(len(web.memories))]
                sequences[0][dice.randrange(6)] = dice.randrange(k)
            many = dice.randint(1, 3)
            row = self.check(by_sequences(sequences), web, k, many)
            falls = False
            for rooms in itertools.product(range(len(web.memories)), repeat=4 * many - 1):
                asks, held = [], set()
                for room in rooms:
                    ask = ("back" if room in held else "give", room)
                    if asks.count(("give", room)) < many or ask[0] == "back":
                        asks.append(ask)
                        held ^= {room}
                falls = falls or led(blindly(by_sequences(sequences)), web, k, asks)[1] != "kept"
                if falls:
                    break
            self.assertEqual(row is not None, falls)
            seen.add(falls)
        self.assertEqual(seen, {True, False})

    def test_fact_of_dyeings(self):
        dice = rng(173)
        for seed in range(60):
            web = random_web(dice, 5, 2)
            number = least_dyed(web, 200)
            turns = in_turn(dyeing(web, number))
            self.assertIsNone(blind_row(turns, web, number, 60))
            self.assertEqual(led(blindly(turns), web, number, random_row(dice, web, 80))[1], "kept")
            if number > 1:
                # By fewer tags none is kept, whatever it does.
                for k in {number - 1, 1}:
                    def unseeing(web, k, room, tags):
                        last = tags[-web.memories[room]:] if web.memories[room] else ()
                        fine = [tag for tag in range(k) if tag not in last]
                        return fine[drawn(seed, room, tags) % len(fine)] if fine else None

                    self.assertIsNotNone(self.check(unseeing, web, k, 3))

    def test_what_the_keeper_is_called_with(self):
        calls = set()

        def unseeing(web, k, room, tags):
            calls.add((web is R2, k, room, tags))
            return room * 2 + len(tags) % 2

        self.assertIsNone(blind_row(unseeing, R2, 4, 3))
        self.assertLessEqual({(True, 4, 0, ()), (True, 4, 0, (0,)), (True, 4, 0, (0, 1)), (True, 4, 1, (2, 3))}, calls)
        self.assertLessEqual(max(len(call[3]) for call in calls), 2)

    def test_errors_in_their_order(self):
        for k in NO_TAG_COUNTS:
            self.assertRaises(NoTags, blind_row, never, R2, k, 5)
            self.assertRaises(NoTags, blind_row, never, R2, k, 0)
        for many in NO_INTEGERS + [0, -1, 61, 10 ** 39]:
            self.assertRaises(NoNumber, blind_row, never, R2, 200, many)

    def test_errors_of_the_keeper_go_on(self):
        def broken(web, k, room, tags):
            raise KeyError(room)

        self.assertRaises(KeyError, blind_row, broken, R2, 4, 1)

    def test_sixty_rooms(self):
        web = row_web(60, 3)
        turns = in_turn(((0, 1, 2, 3), (4, 5, 6, 7)) * 30)
        self.assertIsNone(blind_row(turns, web, 8, 60))
        wrong = in_turn(((0, 1, 2, 3), (4, 5, 6, 7)) * 29 + ((0, 1, 2, 3), (3, 4, 5, 6)))
        self.assertIsNotNone(self.check(wrong, web, 8, 4))


if __name__ == "__main__":
    unittest.main()
