import math
import unittest
from fractions import Fraction

from helpers import DEEP, NO_INTEGERS, NO_TAG_COUNTS, NO_TUPLES, random_web, rng
from running import random_program, read_tagged
from staletags.chances import chances, let_chance
from staletags.errors import NoNumber, NoTags, NoWay, TooMany
from staletags.hands import Program
from staletags.runs import found_always, plain, tagged
from staletags.standings import barred, standing_of
from staletags.webs import Web, ring_web, row_web

R1 = row_web(1, 1)
R2 = row_web(2, 1)
BARE1 = row_web(1, 0)
BARE2 = row_web(2, 0)
WAYS = ("free", "any")

# A handle that is one giving old, at the room that is held again.
ELDER = (("take", "a"), ("back", "a"), ("take", "b"), ("read", "n", "a", 0, 0))
# A handle of a free room at a tied one.
NEAR = (("give", "a", 0), ("back", "a"), ("give", "b", 1), ("read", "n", "a", 1, 0))


class Drawn(Exception):
    """A tag is to be drawn that no row tells."""


def rows_of_tags(program, web, k, way, size, most):
    """Pairs of the result of each row of tags that can be drawn, and its chance."""
    def end(row, chance):
        def keeper(web, k, past, room):
            givings = sum(deed[0] == "give" for deed in past)
            out = barred(web, standing_of(web, past), room) if way == "free" else ()
            tags = [tag for tag in range(k) if tag not in out]
            if givings < len(row):
                return row[givings]
            if not tags:
                return None
            raise Drawn(tags)
        try:
            return [(read_tagged(program, web, k, keeper, size, most, True), chance)]
        except Drawn as drawn:
            tags = drawn.args[0]
            return [pair for tag in tags for pair in end(row + [tag], chance / len(tags))]
    return end([], Fraction(1))


def added_up(pairs):
    told = {}
    for result, chance in pairs:
        told[result] = told.get(result, 0) + chance
    return told


def fractions(told):
    return {result: Fraction(top, bottom) for result, (top, bottom) in told.items()}


def drawing_rows(many, k):
    """A program that draws so many rows of k tags by the way "any", many being k times a number that leaves 1 by k - 1.

    Each giving brings k times as many; with a look through the first handle behind it all but one of them end there.
    """
    block = (("take", "a"), ("copy", "b", "a"))
    left = many // k
    while left > 1:
        block += (("back", "b"), ("take", "b"))
        if left % k:
            block += (("read", "n", "a", 0, 0),)
        left = left - k + 1 if left % k else left // k
    return Program(block)


class ChancesTest(unittest.TestCase):
    """Point 15.1: chances."""

    def test_nothing_drawn(self):
        for way in WAYS:
            self.assertEqual(chances(Program(()), R1, 3, way, 1, 500), {("over", (), (), None): (1, 1)})
            self.assertEqual(chances(Program((("print", "n"),) * 3), R1, 3, way, 1, 2), {("on", (0, 0), (), None): (1, 1)})
            self.assertEqual(chances(Program((("take", "a"),)), R1, 3, way, 1, 0), {("on", (), (), None): (1, 1)})
            self.assertEqual(chances(Program((("give", "a", 1),)), R1, 3, way, 1, 9), {("wrong", (), (), None): (1, 1)})
            self.assertEqual(chances(Program(()), R1, 3, way, 1, 0), {("over", (), (), None): (1, 1)})

    def test_elder(self):
        let = ("over", (), ((3, ("elder", 0, 1)),), None)
        found = ("found", (), (), ("elder", 0, 1))
        for k in (2, 3, 7, 70):
            self.assertEqual(chances(Program(ELDER), BARE1, k, "any", 1, 9), {let: (1, k), found: (k - 1, k)})
            self.assertEqual(chances(Program(ELDER), BARE1, k, "free", 1, 9), {let: (1, k), found: (k - 1, k)})
            self.assertEqual(chances(Program(ELDER), R1, k, "free", 1, 9), {found: (1, 1)})
            # A barred tag is given as others, and is let then.
            self.assertEqual(chances(Program(ELDER), R1, k, "any", 1, 9), {let: (1, k), found: (k - 1, k)})
            self.assertEqual(chances(Program(ELDER), R1, k, "any", 1, 3), {("on", (), (), None): (1, 1)})
        self.assertEqual(chances(Program(ELDER), R1, 1, "any", 1, 9), {let: (1, 1)})
        self.assertEqual(chances(Program(ELDER), R1, 1, "free", 1, 9), {("stuck", (), (), None): (1, 1)})

    def test_near(self):
        let = ("over", (), ((3, ("near", 0, 1, 0)),), None)
        found = ("found", (), (), ("near", 0, 1, 0))
        for way in WAYS:
            self.assertEqual(chances(Program(NEAR), R2, 5, way, 1, 9), {let: (1, 5), found: (4, 5)})
        held = Program((NEAR[0],) + NEAR[2:])
        self.assertEqual(chances(held, R2, 5, "free", 1, 9), {("found", (), (), ("near", 0, 1, 0)): (1, 1)})
        self.assertEqual(let_chance(held, R2, 5, "any", 1, 9), (1, 5))

    def test_cells_and_names_behind_draws(self):
        block = (("num", "n", 7), ("num", "ab", 8), ("take", "a"), ("write", "a", 0, 0, "n"), ("back", "a"), ("print", "ab"), ("take", "b"),
                 ("read", "m", "a", 0, 0), ("print", "m"), ("write", "b", 0, 0, "n"), ("give", "c", 1), ("read", "m", "b", 0, 0), ("print", "m"),
                 ("sum", "m", "m", "ab"), ("print", "m"))
        slip = ("elder", 0, 1)
        told = {("over", (8, 0, 7, 15), ((7, slip),), None): (1, 3), ("found", (8,), (), slip): (2, 3)}
        self.assertEqual(chances(Program(block), BARE2, 3, "free", 1, 99), told)
        self.assertEqual(chances(Program(block), R2, 3, "any", 1, 99), told)

    def test_what_can_come_alone(self):
        # By the way "free" the third of three rooms all tied is stuck by two tags.
        block = (("take", "a"), ("take", "b"), ("print", "n"), ("take", "c"), ("print", "n"))
        self.assertEqual(chances(Program(block), ring_web(3, 0), 2, "free", 1, 9), {("stuck", (0,), (), None): (1, 1)})
        self.assertEqual(chances(Program(block), ring_web(3, 0), 3, "free", 1, 9), {("over", (0, 0), (), None): (1, 1)})
        self.assertEqual(chances(Program(block), ring_web(3, 0), 2, "any", 1, 9), {("over", (0, 0), (), None): (1, 1)})
        # On a row of three it is stuck just if the ends show unlike tags.
        ends = (("give", "a", 0), ("give", "b", 2), ("give", "c", 1))
        self.assertEqual(chances(Program(ends), row_web(3, 0), 2, "free", 1, 9), {("stuck", (), (), None): (1, 2), ("over", (), (), None): (1, 2)})
        self.assertEqual(chances(Program(ends), row_web(3, 0), 1, "free", 1, 9), {("stuck", (), (), None): (1, 1)})

    def test_lowest_terms(self):
        block = ELDER + (("back", "b"), ("take", "b"), ("read", "n", "a", 0, 0))
        told = chances(Program(block), BARE1, 6, "any", 1, 99)
        self.assertEqual(sorted(told.values()), [(1, 36), (5, 6), (5, 36)])
        for chance in told.values():
            self.assertIs(type(chance), tuple)
            self.assertEqual([type(part) for part in chance], [int, int])

    def test_all_add_up_to_1(self):
        dice = rng(503)
        words = set()
        results = 0
        for turn in range(500):
            web = dice.choice((random_web(dice, 3, 1), BARE1, BARE2, R1))
            k, most, size = dice.randrange(1, 5), dice.choice((3, 12, 500)), dice.choice((1, 2))
            program = random_program(dice, web, size, dice.randrange(1, 16), dice.choice(("abn", "abcn")), dice.choice((0.9, 1)))
            for way in WAYS:
                try:
                    told = chances(program, web, k, way, size, most)
                except TooMany:
                    self.assertGreater(len(rows_of_tags(program, web, k, way, size, 14)), 20)
                    continue
                self.assertIs(type(told), dict)
                self.assertEqual(sum(fractions(told).values()), 1)
                for top, bottom in told.values():
                    self.assertEqual(math.gcd(top, bottom), 1)
                    self.assertTrue(0 < top <= bottom)
                words.update(result[0] for result in told)
                results = max(results, len(told))
                self.facts(program, web, k, way, size, most, let_chance(program, web, k, way, size, most))
        self.assertEqual(words, {"over", "on", "held", "full", "wrong", "found", "stuck"})
        self.assertGreater(results, 2)

    def facts(self, program, web, k, way, size, most, chance):
        """THE FACT OF DRAWINGS."""
        if way == "free":
            if found_always(program, web, size, most) != "open":
                self.assertEqual(chance, (0, 1))
        else:
            slips = plain(program, web, size, most)[2]
            is_held = slips != () and slips[0][1][0] != "free"
            self.assertEqual(chance, (1, k) if is_held else (0, 1))

    def test_beside_all_rows_of_tags(self):
        dice = rng(509)
        for turn in range(300):
            web = dice.choice((random_web(dice, 3, 1), BARE1, BARE2, R1))
            k, most = dice.randrange(1, 4), dice.choice((3, 9, 12, 15))
            program = random_program(dice, web, 1, dice.randrange(1, 12), "abn", dice.choice((0.9, 1)))
            for way in WAYS:
                pairs = rows_of_tags(program, web, k, way, 1, most)
                told = chances(program, web, k, way, 1, most)
                self.assertEqual(fractions(told), added_up(pairs))
                let = Fraction(*let_chance(program, web, k, way, 1, most))
                self.assertEqual(let, sum(chance for result, chance in pairs if result[2]))

    def test_results_are_of_tagged(self):
        # Each tag that is not barred drawn by a keeper brings a result that is told.
        dice = rng(521)
        for turn in range(60):
            web = random_web(dice, 3, 1)
            program = random_program(dice, web, 1, dice.randrange(1, 8), "abn", 1)

            def keeper(web, k, past, room):
                tags = [tag for tag in range(k) if tag not in barred(web, standing_of(web, past), room)]
                return dice.choice(tags) if tags else None
            told = chances(program, web, 3, "free", 1, 12)
            came = {tagged(program, web, 3, keeper, 1, 12) for _ in range(40)}
            self.assertLessEqual(came, set(told))

    def test_long_runs(self):
        # Cut within agains of 100 rounds, a single tag being left for each giving but the first.
        block = (("again", 100, (("again", 100, (("take", "a"), ("back", "a"))),)),)
        for most in (0, 1, 2, 3, 499, 500):
            told = chances(Program(block), R1, 2, "free", 1, most)
            self.assertEqual(told, {("on", (), (), None): (1, 1)})
        block = (("take", "a"), ("again", 100, (("again", 100, (("read", "n", "a", 0, 0), ("print", "n"))),)))
        told = chances(Program(block), R1, 200, "any", 1, 500)
        self.assertEqual(told, {("on", (0,) * 247, (), None): (1, 1)})

    def test_dicts_are_new(self):
        one, other = [chances(Program(ELDER), BARE1, 3, "any", 1, 9) for _ in range(2)]
        one.clear()
        self.assertEqual(chances(Program(ELDER), BARE1, 3, "any", 1, 9), other)


class LetChanceTest(unittest.TestCase):
    """Point 15.1: let_chance."""

    def test_ordinary(self):
        self.assertEqual(let_chance(Program(ELDER), BARE1, 4, "free", 1, 9), (1, 4))
        self.assertEqual(let_chance(Program(ELDER), R1, 4, "free", 1, 9), (0, 1))
        self.assertEqual(let_chance(Program(()), R1, 4, "any", 1, 9), (0, 1))
        self.assertEqual(let_chance(Program(ELDER), R1, 1, "any", 1, 9), (1, 1))
        self.assertEqual(let_chance(Program(ELDER), R1, 1, "any", 1, 3), (0, 1))
        # Room 0 gives one of two tags that are left; it is let just if room 1, that is free, has shown the other one.
        block = (("give", "a", 0), ("give", "b", 1), ("back", "a"), ("give", "c", 0), ("read", "n", "a", 0, 0))
        self.assertEqual(let_chance(Program(block), row_web(2, 0), 3, "free", 1, 9), (1, 2))
        self.assertEqual(let_chance(Program(block), row_web(2, 0), 2, "free", 1, 9), (1, 1))

    def test_each_slip_that_is_let_counts_once(self):
        block = ELDER + (("read", "n", "a", 0, 0), ("back", "b"), ("take", "b"), ("read", "n", "a", 0, 0))
        self.assertEqual(let_chance(Program(block), BARE1, 5, "any", 1, 99), (1, 5))
        self.assertEqual(let_chance(Program(block), BARE1, 5, "free", 1, 99), (1, 5))

    def test_the_way_any_against_1_of_k(self):
        webs = (R1, BARE1, row_web(1, 3))
        for k in (1, 2, 3, 10, 70):
            for web in webs:
                self.assertEqual(let_chance(Program(ELDER), web, k, "any", 1, 9), (1, k))
            for web in (R2, BARE2, Web((2, 0), ((0, 1),))):
                self.assertEqual(let_chance(Program(NEAR), web, k, "any", 1, 9), (1, k))
                self.assertEqual(let_chance(Program(NEAR[:1] + NEAR[2:]), web, k, "any", 1, 9), (1, k))
                self.assertEqual(let_chance(Program(NEAR[:2] + NEAR[3:]), web, k, "any", 1, 9), (0, 1))
                self.assertEqual(let_chance(Program(NEAR), web, k, "any", 1, 3), (0, 1))


class BoundsTest(unittest.TestCase):
    """Point 15.1: which errors are raised, and 5000 rows of tags and one more."""

    def too_many(self, *args):
        for call in (chances, let_chance):
            with self.assertRaises(TooMany) as caught:
                call(*args)
            self.assertEqual(caught.exception.most, 5000)

    def test_drawing_rows(self):
        for k, manys in ((2, (2, 4, 6, 10, 12, 38, 100)), (3, (3, 9, 15, 21, 57, 183)), (7, (7, 49))):
            for many in manys:
                self.assertEqual(len(rows_of_tags(drawing_rows(many, k), BARE1, k, "any", 1, 500)), many)

    def test_5000_and_one_more(self):
        program = drawing_rows(5000, 2)
        told = chances(program, BARE1, 2, "any", 1, 500)
        self.assertEqual(sum(fractions(told).values()), 1)
        self.assertEqual(let_chance(program, BARE1, 2, "any", 1, 500), (1, 2))
        # A room that remembers none gives any tag by the way "free", too.
        self.assertEqual(chances(program, BARE1, 2, "free", 1, 500), told)
        for many, k in ((5001, 3), (5002, 2), (8192, 2)):
            for way in WAYS:
                self.too_many(drawing_rows(many, k), BARE1, k, way, 1, 500)
        self.assertEqual(let_chance(drawing_rows(4995, 3), BARE1, 3, "any", 1, 500), (1, 3))

    def test_rows_that_come_to_be_stuck_count(self):
        # 17 of 18 tags for the second of three rooms all tied, and so on; the row ends with the giving that is stuck.
        block = (("take", "a"), ("take", "b"), ("take", "c"), ("take", "d"))
        ring = Web((0,) * 4, ((0, 1), (0, 2), (0, 3), (1, 2), (1, 3), (2, 3)))
        self.assertEqual(chances(Program(block[:3]), ring, 18, "free", 1, 9), {("over", (), (), None): (1, 1)})
        self.too_many(Program(block[:3]), ring, 19, "free", 1, 9)
        self.too_many(Program(block), ring, 11, "free", 1, 9)
        self.assertEqual(chances(Program(block), ring, 9, "free", 1, 9), {("over", (), (), None): (1, 1)})
        seven = Web((0,) * 8, tuple((a, b) for a in range(8) for b in range(a + 1, 8)))
        again = Program((("again", 8, (("take", "a"),)),))
        self.assertEqual(chances(again, seven, 6, "free", 1, 99), {("stuck", (), (), None): (1, 1)})
        # 7 tags bring 5040 rows, all of which come to be stuck.
        self.too_many(again, seven, 7, "free", 1, 99)

    def test_draws_behind_most_do_not_count(self):
        again = Program((("again", 100, (("take", "a"), ("back", "a"))),))
        self.assertEqual(chances(again, BARE1, 2, "any", 1, 24), {("on", (), (), None): (1, 1)})
        self.too_many(again, BARE1, 2, "any", 1, 26)
        self.assertEqual(chances(again, BARE1, 70, "free", 1, 5), chances(again, BARE1, 2, "any", 1, 5))
        self.too_many(again, BARE1, 71, "free", 1, 99)

    def test_two_hundred_tags(self):
        block = (("take", "a"), ("print", "n"))
        self.assertEqual(chances(Program(block), R1, 200, "any", 8, 500), {("over", (0,), (), None): (1, 1)})
        self.too_many(Program(block * 2), R2, 200, "free", 8, 500)

    def test_wrong_arguments_in_their_order(self):
        large = drawing_rows(5002, 2)
        no_ways = ["", "Free", "ANY", "frees", "any ", b"free", b"any", ["free"], ("free", "any"), WAYS, 0] + NO_TUPLES + DEEP
        for call in (chances, let_chance):
            for k in NO_TAG_COUNTS:
                self.assertRaises(NoTags, call, large, R1, k, None, 0, -1)
                self.assertRaises(NoTags, call, large, R1, k, "free", 1, 9)
            for way in no_ways:
                self.assertRaises(NoWay, call, large, R1, 2, way, 0, -1)
                self.assertRaises(NoWay, call, large, R1, 2, way, 1, 9)
            for way in WAYS:
                for size in NO_INTEGERS + [0, 9, -1]:
                    self.assertRaises(NoNumber, call, large, BARE1, 2, way, size, None)
                    self.assertRaises(NoNumber, call, large, BARE1, 2, way, size, 500)
                for most in NO_INTEGERS + [501, -1, 10 ** 39]:
                    self.assertRaises(NoNumber, call, large, BARE1, 2, way, 1, most)
                for size, most in ((1, 0), (8, 500)):
                    call(Program(ELDER), R1, 3, way, size, most)


if __name__ == "__main__":
    unittest.main()
