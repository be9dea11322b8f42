import unittest

from heaps import zero
from helpers import DEEP, NO_INTEGERS, NO_TAG_COUNTS, NO_TUPLES, random_web, rng
from keeping import ALL_KINDS, breaking_off, greatest_steady, hashed, least, least_steady
from running import Hands, Memory, random_program
from staletags.errors import Full, NoHands, NoNumber, NoTags, NotKept, NoWeaving, TooMany
from staletags.hands import Program
from staletags.keepers import steadily
from staletags.runs import found_always, plain, tagged
from staletags.weaves import least_open, least_slip, outcomes, passing_weaving, whole_weavings, woven, woven_tagged
from staletags.webs import Web, row_web

R1 = row_web(1, 1)
R2 = row_web(2, 1)
BARE1 = row_web(1, 0)
BARE2 = row_web(2, 0)
PRINT = ("print", "n")
EMPTY = Program(())


def hands_of(*blocks):
    return tuple(Program(block) for block in blocks)


def straight(many):
    """A program that begins so many statements."""
    block = ()
    for width in (20, 4, 1):
        while many > 100 * width:
            block += (("again", 100, (PRINT,) * width),)
            many -= 100 * width + 1
    return Program(block + ((("again", many - 1, (PRINT,)),) if many else ()))


def never(*args):
    raise AssertionError("the keeper was asked")


def begun_hands(hands, memory):
    return Hands([program.block for program in hands], memory)


def followed(hands, memory, weaving):
    """The hands behind a weaving, read plainly."""
    told = begun_hands(hands, memory)
    for number in weaving:
        assert told.words[number] == "on"
        told.step(number)
    return told


def all_weavings(hands, make, most=400):
    """Pairs of each weaving and what is behind it, shorter ones first, else ascending; None for more than most."""
    pairs = []
    level = [()]
    while level:
        pairs += [(weaving, followed(hands, make(), weaving)) for weaving in level]
        level = [weaving + (n,) for weaving, told in pairs[-len(level):] for n in range(len(hands)) if told.words[n] == "on"]
        if len(pairs) + len(level) > most:
            return None
    return pairs


def random_hands(dice, web, size):
    """One to three random hands that hand givings on by names of two letters."""
    many = dice.choice((1, 2, 2, 3))
    names = ["g", "gg", "gg", "hh"]
    blocks = [tuple(random_step(dice, web, size, names) for _ in range(dice.randrange(1, 2 + 6 // many))) for _ in range(many)]
    return hands_of(((dice.choice((("take", "gg"), ("give", "gg", 0)))),) + blocks[0], *blocks[1:])


def random_step(dice, web, size, names):
    name, cell = dice.choice(names), dice.randrange(size + (dice.random() < 0.1))
    return dice.choice([
        ("take", name), ("take", name), ("give", name, dice.randrange(len(web.memories))), ("back", name), ("back", name), ("copy", "g", name),
        ("read", dice.choice(("n", "nn")), name, dice.choice((0, 1, 1, 2)), cell), ("write", name, dice.choice((0, 1)), cell, "n"), ("num", "n", 3),
        ("print", dice.choice(("n", "nn"))), ("if", "nn", (("back", name),), (("take", name),)), ("again", 2, (("take", name), ("back", name))),
    ])


def random_weaving(dice, hands, memory, most=30):
    """A weaving that can come, up to its end now and then."""
    told = begun_hands(hands, memory)
    weaving = []
    for _ in range(dice.randrange(most)):
        ready = [n for n, word in enumerate(told.words) if word == "on"]
        if not ready:
            break
        weaving.append(dice.choice(ready))
        told.step(weaving[-1])
    return tuple(weaving)


NO_HANDS = [
    (), (EMPTY,) * 4, [EMPTY], EMPTY, (EMPTY, None), (None,), (EMPTY, ()), (EMPTY, R1), (EMPTY, "print a"), ((EMPTY,),),
    (EMPTY, EMPTY, 0), (Program,), {0: EMPTY}, iter((EMPTY,)),
] + NO_TUPLES + DEEP


class WovenTest(unittest.TestCase):
    """Point 14.1: woven."""

    def test_one_hand(self):
        hands = hands_of((("num", "n", 3), PRINT, ("take", "b"), ("back", "b"), ("back", "b"), PRINT))
        self.assertEqual(woven(hands, R1, 1, ()), (("on",), ((),), ()))
        self.assertEqual(woven(hands, R1, 1, (0, 0)), (("on",), ((3,),), ()))
        self.assertEqual(woven(hands, R1, 1, (0,) * 5), (("on",), ((3,),), ((4, ("free", 0, 0)),)))
        self.assertEqual(woven(hands, R1, 1, (0,) * 6), (("over",), ((3, 3),), ((4, ("free", 0, 0)),)))

    def test_names_of_one_letter_and_longer_ones(self):
        hands = hands_of((("num", "n", 3), ("num", "aa", 4), PRINT, ("print", "aa")), (PRINT, ("print", "aa"), ("num", "aa", 5), ("num", "n", 6)))
        self.assertEqual(woven(hands, R1, 1, (0, 0, 1, 1, 1, 1, 0, 0))[1], ((3, 5), (0, 4)))
        self.assertEqual(woven(hands, R1, 1, (1, 1, 1, 0, 0, 0, 0, 1))[1], ((3, 4), (0, 0)))

    def test_givings_are_handed_on(self):
        writer = (("take", "gg"), ("num", "n", 7), ("write", "gg", 0, 0, "n"), ("back", "gg"))
        reader = (("read", "n", "gg", 0, 0), ("print", "n"))
        hands = hands_of(writer, reader)
        self.assertEqual(woven(hands, R1, 1, (0, 0, 0, 1, 1, 0)), (("over", "over"), ((), (7,)), ()))
        self.assertEqual(woven(hands, R1, 1, (0, 0, 0, 0, 1, 1)), (("over", "over"), ((), (7,)), ((4, ("free", 0, 0)),)))
        self.assertEqual(woven(hands, R1, 1, (1, 0, 0, 0, 0)), (("over", "wrong"), ((), ()), ()))

    def test_hands_end_alone(self):
        hands = hands_of((("give", "a", 0), ("print", "a")), (("give", "a", 0), PRINT), (("take", "b"), ("take", "b"), PRINT))
        self.assertEqual(woven(hands, R1, 1, (0, 1, 2, 0)), (("wrong", "held", "full"), ((), (), ()), ()))
        self.assertEqual(woven(hands, R2, 1, (2, 0, 1)), (("held", "held", "on"), ((), (), ()), ()))
        self.assertEqual(woven(hands, R2, 1, (0, 2, 2, 1, 0)), (("wrong", "held", "full"), ((), (), ()), ()))

    def test_agains_and_ifs_are_steps(self):
        hands = hands_of((("again", 2, (PRINT, ("if", "a", (), ()))),), (("if", "a", (), (("again", 100, ()),)),))
        self.assertEqual(woven(hands, R1, 1, (0, 0, 0, 0))[0], ("on", "on"))
        self.assertEqual(woven(hands, R1, 1, (1, 0, 0, 0, 1, 0, 0)), (("over", "over"), ((0, 0), ()), ()))

    def test_empty_programs(self):
        self.assertEqual(woven((EMPTY,), R1, 1, ()), (("over",), ((),), ()))
        self.assertEqual(woven((EMPTY, Program((PRINT,)), EMPTY), R1, 1, (1,)), (("over",) * 3, ((), (0,), ()), ()))
        self.no_weaving((EMPTY, straight(1)), (0,), 0)
        self.no_weaving((EMPTY, straight(1)), (1, 0), 1)

    def no_weaving(self, hands, weaving, place):
        for call, args in ((woven, ()), (woven_tagged, (3, least))):
            with self.assertRaises(NoWeaving) as caught:
                call(hands, R1, *args, 1, weaving)
            self.assertEqual(caught.exception.place, place)

    def test_no_weaving(self):
        hands = (straight(2), straight(1))
        for number in NO_INTEGERS + [2, -1, 10 ** 39]:
            self.no_weaving(hands, (number,), 0)
            self.no_weaving(hands, (0, 1, number, number), 2)
        for thing in NO_TUPLES + [[0], [0, 1], {0: 1}, iter((0,))]:
            self.no_weaving(hands, thing, -1)
        self.no_weaving(hands, DEEP[0], 0)
        self.no_weaving(hands, ((0,),), 0)
        # Hands that are over.
        self.no_weaving(hands, (0, 0, 0), 2)
        self.no_weaving(hands, (1, 1, 9), 1)
        self.no_weaving(hands, (0, 1, 0, 1, 0), 3)
        self.no_weaving((straight(2),), (0, 1), 1)
        # Hands that ended by a word: the statement by which they do counts.
        for last in (("back", "a"), ("give", "a", 1), ("sum", "a", "a", "b")):
            ended = hands_of((("num", "a", 1), ("take", "b"), last, PRINT), (PRINT, PRINT))
            self.assertEqual(woven(ended, R1, 1, (0, 0, 0, 1))[0], ("wrong", "on"))
            self.no_weaving(ended, (0, 0, 0, 1, 0), 4)
        self.no_weaving(hands_of((("take", "a"), ("take", "a"), PRINT)), (0, 0, 0), 2)
        self.no_weaving(hands_of((("take", "a"), ("give", "a", 0), PRINT)), (0, 0, 0), 2)

    def test_no_hands(self):
        for hands in NO_HANDS:
            self.assertRaises(NoHands, woven, hands, R1, 1, ())
            self.assertRaises(NoHands, woven, hands, R1, 0, None)
            self.assertRaises(NoHands, woven_tagged, hands, R1, 0, never, 0, None)
        for many in (1, 2, 3):
            self.assertEqual(woven((EMPTY,) * many, R1, 1, ())[0], ("over",) * many)

    def test_no_number(self):
        for size in NO_INTEGERS + [0, 9, -1]:
            self.assertRaises(NoNumber, woven, (EMPTY,), R1, size, ())
            self.assertRaises(NoNumber, woven, (EMPTY,), R1, size, None)
            self.assertRaises(NoNumber, woven_tagged, (EMPTY,), R1, 1, never, size, None)
        block = (("take", "a"), ("read", "n", "a", 0, 7))
        self.assertEqual([woven(hands_of(block), R1, size, (0, 0))[0] for size in (7, 8)], [("wrong",), ("over",)])

    def test_like_plain(self):
        dice = rng(401)
        for _ in range(200):
            web = random_web(dice, 3, 1)
            program = random_program(dice, web, 2, dice.randrange(12))
            word, said, slips = plain(program, web, 2, 5000)
            most = next(most for most in range(5001) if plain(program, web, 2, most)[0] != "on")
            self.assertEqual(woven((program,), web, 2, (0,) * most), ((word,), (said,), slips))
            for many in range(0, most, 3):
                self.assertEqual(woven((program,), web, 2, (0,) * many), (("on",),) + self.beside(plain(program, web, 2, many)))

    def beside(self, told):
        return (told[1],), told[2]

    def test_beside_the_plain_reading(self):
        dice = rng(409)
        words = set()
        for _ in range(400):
            web = random_web(dice, 3, 1)
            size = dice.choice((1, 2, 8))
            hands = random_hands(dice, web, size)
            weaving = random_weaving(dice, hands, Memory(web, size))
            told = followed(hands, Memory(web, size), weaving)
            self.assertEqual(woven(hands, web, size, weaving), told.told() + (told.let_slips(),))
            words.update(told.words)
        self.assertEqual(words, {"over", "on", "held", "full", "wrong"})

    def test_long(self):
        block = (("num", "n", 10 ** 9), ("again", 100, (("again", 100, (("sum", "n", "n", "n"), ("print", "n"))),)))
        words, said, slips = woven(hands_of(block), R1, 1, (0,) * 19999)
        self.assertEqual((words, slips), (("on",), ()))
        self.assertEqual(said[0], tuple(10 ** 9 * 2 ** (at + 1) for at in range(len(said[0]))))
        self.assertEqual(len(said[0]), 9948)


class WovenTaggedTest(unittest.TestCase):
    """Point 14.1: woven_tagged."""

    def test_a_look_that_is_found_ends_its_hand_alone(self):
        hands = hands_of((("take", "gg"), ("back", "gg"), PRINT), (("back", "gg"), PRINT), (("read", "n", "gg", 0, 0), PRINT))
        told = woven_tagged(hands, R1, 2, least, 1, (0, 0, 1, 0, 2))
        self.assertEqual(told, (("over", "found", "found"), ((0,), (), ()), (), ((2, ("free", 0, 0)), (4, ("free", 0, 0)))))

    def test_slips_that_are_let(self):
        hands = hands_of((("take", "a"), ("back", "a"), ("back", "a"), PRINT), (("take", "a"), PRINT))
        told = woven_tagged(hands, BARE1, 1, zero, 1, (0, 0, 1, 0, 0, 1))
        self.assertEqual(told, (("over", "over"), ((0,), (0,)), ((3, ("elder", 0, 1)),), ()))

    def test_words_of_the_keeper(self):
        hands = hands_of((("take", "a"), ("print", "n")), (("take", "a"), ("print", "n")))
        for tag, word in ((0, "barred"), (None, "stuck"), (2, "odd"), (True, "odd"), ("0", "odd")):
            keeper = breaking_off(zero, 1, tag)
            self.assertEqual(woven_tagged(hands, R2, 2, keeper, 1, (1, 0, 1)), ((word, "over"), ((), (0,)), (), ()))
            with self.assertRaises(NoWeaving) as caught:
                woven_tagged(hands, R2, 2, keeper, 1, (1, 0, 0))
            self.assertEqual(caught.exception.place, 2)

    def test_what_the_keeper_is_called_with(self):
        calls = []

        def keeper(*args):
            calls.append(args)
            return len(calls)
        woven_tagged(hands_of((("take", "a"),), (("take", "a"), ("back", "a"), ("give", "a", 1))), R2, 4, keeper, 1, (1, 1, 0, 1))
        past = (("give", 0, 1), ("back", 0), ("give", 0, 2))
        self.assertEqual(calls, [(R2, 4, (), 0), (R2, 4, past[:2], 0), (R2, 4, past, 1)])

    def test_a_keepers_own_error_goes_on(self):
        for error in (Full(), NotKept("odd"), NoWeaving(3), KeyError(1), IndexError()):
            def keeper(web, k, past, room):
                raise error
            with self.assertRaises(type(error)) as caught:
                woven_tagged(hands_of((PRINT, ("take", "a"))), R2, 3, keeper, 1, (0, 0))
            self.assertIs(caught.exception, error)

    def test_wrong_arguments_in_their_order(self):
        for k in NO_TAG_COUNTS:
            self.assertRaises(NoTags, woven_tagged, (EMPTY,), R1, k, never, 0, None)
            self.assertRaises(NoTags, woven_tagged, (EMPTY,), R1, k, never, 1, ())
        for k in (1, 200):
            self.assertEqual(woven_tagged((EMPTY,), R1, k, never, 8, ()), (("over",), ((),), (), ()))

    def test_beside_the_plain_reading(self):
        dice = rng(419)
        words = set()
        for turn in range(500):
            web = random_web(dice, 3, 1)
            size, k = dice.choice((1, 2)), dice.randrange(1, 5)
            hands = random_hands(dice, web, size)
            keeper = dice.choice([ALL_KINDS[name] for name in sorted(ALL_KINDS)] + [zero])
            weaving = random_weaving(dice, hands, Memory(web, size, k, keeper))
            told = followed(hands, Memory(web, size, k, keeper), weaving)
            wanted = told.told() + (told.let_slips(), told.found_slips())
            self.assertEqual(woven_tagged(hands, web, k, keeper, size, weaving), wanted)
            words.update(told.words)
        self.assertEqual(words, {"over", "on", "held", "full", "wrong", "found", "barred", "stuck", "odd"})

    def test_like_tagged(self):
        dice = rng(421)
        for _ in range(100):
            web = random_web(dice, 3, 1)
            program = random_program(dice, web, 1, dice.randrange(12))
            word, said, passed, slip = tagged(program, web, 3, least, 1, 5000)
            most = next(most for most in range(5001) if tagged(program, web, 3, least, 1, most)[0] != "on")
            told = woven_tagged((program,), web, 3, least, 1, (0,) * most)
            self.assertEqual(told[:3], ((word,), (said,), passed))
            self.assertEqual([found for _, found in told[3]], [slip] if slip else [])


class AllWeavingsTest(unittest.TestCase):
    """Point 14.2: what is told of all weavings, and THE FACT OF WEAVINGS."""

    def test_whole_weavings(self):
        for sizes, many in (((0,), 1), ((0, 0, 0), 1), ((4,), 1), ((1, 1), 2), ((2, 3), 10), ((1, 2, 3), 60), ((2, 2, 2), 90), ((0, 3, 2), 10)):
            self.assertEqual(whole_weavings(tuple(straight(size) for size in sizes), R1, 1), many)
        # The first one that takes the room has one statement more to do.
        hands = hands_of((("take", "a"), PRINT), (("take", "a"), PRINT))
        self.assertEqual(whole_weavings(hands, R1, 1), 4)
        self.assertEqual(whole_weavings(hands, R2, 1), 6)

    def test_outcomes(self):
        hands = hands_of((("num", "aa", 1), ("print", "aa")), (("num", "aa", 2),))
        self.assertEqual(outcomes(hands, R1, 1), [(("over", "over"), ((1,), ())), (("over", "over"), ((2,), ()))])
        hands = hands_of((("take", "a"), ("back", "a")), (("take", "a"),))
        told = outcomes(hands, R1, 1)
        self.assertEqual(told, [(("full", "over"), ((), ())), (("over", "full"), ((), ())), (("over", "over"), ((), ()))])
        self.assertEqual(outcomes((EMPTY, EMPTY), R1, 1), [(("over", "over"), ((), ()))])
        told.clear()
        self.assertEqual(len(outcomes(hands, R1, 1)), 3)

    def test_cells_and_prints_of_each_weaving(self):
        hands = hands_of((("take", "gg"), ("num", "n", 7), ("write", "gg", 0, 0, "n"), ("read", "m", "gg", 0, 0), ("print", "m")),
                         (("num", "n", 5), ("write", "gg", 0, 0, "n")))
        words = [(word, ((number,), ())) for word, number in ((("over", "over"), 5), (("over", "over"), 7), (("over", "wrong"), 7))]
        self.assertEqual(outcomes(hands, R1, 1), words)

    def test_least_slip_and_least_open(self):
        # A free room: found always.
        hands = hands_of((("take", "gg"), PRINT), (PRINT, ("back", "gg")), (PRINT, PRINT, ("back", "gg")))
        self.assertEqual(least_slip(hands, R1, 1), (0, 1, 1, 2, 2, 2))
        self.assertEqual(least_open(hands, R1, 1), None)
        # An elder handle, by the memory of the room.
        block = (("take", "aa"), ("back", "aa"), ("take", "bb"), ("read", "n", "aa", 0, 0))
        for web, opening in ((BARE1, (0, 0, 0, 0)), (R1, None)):
            self.assertEqual(least_slip(hands_of(block), web, 1), (0, 0, 0, 0))
            self.assertEqual(least_open(hands_of(block), web, 1), opening)
        # One weaving's first slip is open, though there are shorter and lesser ones with slips.
        hands = hands_of((("give", "gg", 0), ("give", "hh", 1), ("back", "gg")), (("read", "n", "gg", 1, 0),))
        self.assertEqual(least_slip(hands, BARE2, 1), (0, 1))
        self.assertEqual(least_open(hands, BARE2, 1), (0, 0, 0, 1))
        self.assertIsNone(least_slip((EMPTY,), R1, 1))
        self.assertIsNone(least_open((straight(5), straight(3)), R1, 1))

    def test_only_the_first_slip_can_be_open(self):
        # The second slip would be open, but a slip that is found always comes ahead of it.
        block = (("take", "a"), ("back", "a"), ("back", "a"), ("take", "b"), ("read", "n", "a", 0, 0))
        self.assertEqual(plain(Program(block), BARE1, 1, 9)[2], ((2, ("free", 0, 0)), (4, ("elder", 0, 1))))
        self.assertEqual(least_slip(hands_of(block), BARE1, 1), (0, 0, 0))
        self.assertIsNone(least_open(hands_of(block), BARE1, 1))

    def test_passing_weaving(self):
        block = (("take", "a"), ("back", "a"), ("back", "a"))
        other = (("take", "b"), PRINT)
        self.assertEqual(passing_weaving(hands_of(block, other), BARE1, 1, least_steady, 1), (0, 0, 1, 0))
        self.assertIsNone(passing_weaving(hands_of(block, other), R1, 2, least_steady, 1))
        # Behind a look that was found only another hand goes on.
        near = (("give", "gg", 0), ("back", "gg"), ("back", "gg")), (("give", "b", 1),), (("read", "n", "gg", 1, 0),)
        self.assertEqual(passing_weaving(hands_of(*near), BARE2, 3, least_steady, 1), (0, 0, 1, 2))
        self.assertEqual(passing_weaving(hands_of(near[0] + (PRINT,), *near[1:]), BARE2, 1, least_steady, 1), (0, 0, 1, 2))

    def test_what_the_steady_keeper_is_called_with(self):
        calls = []

        def steady(*args):
            calls.append(args)
            return 3 - len(calls)
        passing_weaving(hands_of((("give", "a", 1), ("back", "a"), ("take", "a"))), R2, 4, steady, 1)
        self.assertEqual(calls, [(R2, 4, ((False, ()), (False, ())), 1), (R2, 4, ((False, ()), (False, (2,))), 0)])

    def test_a_keepers_own_error_goes_on(self):
        for error in (Full(), TooMany(3), KeyError(1)):
            def steady(web, k, standing, room):
                raise error
            with self.assertRaises(type(error)) as caught:
                passing_weaving(hands_of((PRINT, ("take", "a"))), R2, 3, steady, 1)
            self.assertIs(caught.exception, error)

    def test_beside_the_plain_reading(self):
        dice = rng(431)
        told = {"slip": 0, "open": 0, "passing": 0, "none": 0, "many": 0}
        for turn in range(800):
            web = dice.choice((BARE1, BARE2, BARE2, R2, row_web(3, 0), Web((0, 1), ((0, 1),))))
            hands = random_hands(dice, web, 1)
            pairs = all_weavings(hands, lambda: Memory(web, 1))
            if pairs is None:
                told["many"] += 1
                continue
            whole = [behind for _, behind in pairs if "on" not in behind.words]
            self.assertEqual(whole_weavings(hands, web, 1), len(whole))
            self.assertEqual(outcomes(hands, web, 1), sorted({behind.told() for behind in whole}))
            slip, opening = least_slip(hands, web, 1), least_open(hands, web, 1)
            self.assertEqual(slip, self.first(pairs, lambda weaving, behind: self.ends_with_slip(weaving, behind, True)))
            self.assertEqual(opening, self.first(pairs, self.opens))
            told["slip"] += slip is not None
            told["open"] += opening is not None
            told["none"] += slip is not None and opening is None
            for k, steady in ((1, zero_steady), (3, least_steady), (2, greatest_steady), (3, hashed(turn))):
                passing = self.passes(hands, web, k, steady)
                told["passing"] += passing is not None
                self.fact(opening, passing)
        self.assertGreater(min(told.values()), 9, told)

    def passes(self, hands, web, k, steady):
        pairs = all_weavings(hands, lambda: Memory(web, 1, k, steadily(steady)))
        passing = passing_weaving(hands, web, k, steady, 1)
        self.assertEqual(passing, self.first(pairs, lambda weaving, behind: self.ends_with_slip(weaving, behind, True)))
        return passing

    def fact(self, opening, passing):
        """THE FACT OF WEAVINGS, of a keeper that gives no barred tag: here each one that does ends its hand."""
        if opening is None:
            self.assertIsNone(passing)
        elif passing is not None:
            self.assertGreaterEqual(len(passing), len(opening))

    def first(self, pairs, fits):
        return next((weaving for weaving, behind in pairs if fits(weaving, behind)), None)

    def ends_with_slip(self, weaving, behind, let):
        return any(place == len(weaving) - 1 and was_let == let for place, _, was_let in behind.slips)

    def opens(self, weaving, behind):
        return [place for place, _, _ in behind.slips] == [len(weaving) - 1] and behind.clauses == ["open"]

    def test_like_found_always(self):
        # Of one hand.
        dice = rng(433)
        for _ in range(100):
            web = random_web(dice, 3, 1)
            program = random_program(dice, web, 1, dice.randrange(14))
            clause = found_always(program, web, 1, 5000)
            self.assertEqual(least_slip((program,), web, 1) is None, clause is None)
            self.assertEqual(least_open((program,), web, 1) is None, clause != "open")


def zero_steady(web, k, standing, room):
    return 0


class BoundsTest(unittest.TestCase):
    """Point 14.2: which errors are raised, and 3000 weavings and one more."""

    plain_calls = [whole_weavings, outcomes, least_slip, least_open]

    def too_many(self, call, *args):
        with self.assertRaises(TooMany) as caught:
            call(*args)
        self.assertEqual(caught.exception.most, 3000)

    def test_straight(self):
        for many in (0, 1, 59, 60, 61, 500, 2999):
            self.assertEqual(plain(straight(many), R1, 1, 5000), plain(straight(many), R1, 1, many))
            if many:
                self.assertEqual(plain(straight(many), R1, 1, many - 1)[0], "on")

    def test_3000_and_one_more(self):
        # Of one hand there is one weaving more than statements are begun.
        for call in self.plain_calls:
            call((straight(2999),), R1, 1)
            self.too_many(call, (straight(3000),), R1, 1)
        self.assertIsNone(passing_weaving((straight(2999),), R1, 1, zero_steady, 1))
        self.too_many(passing_weaving, (straight(3000),), R1, 1, zero_steady, 1)
        self.assertEqual(outcomes((straight(2999),), R1, 1)[0][0], ("over",))

    def test_many_of_two_and_three_hands(self):
        # Of 5 and 6 statements there are 1715 weavings, of 4 and 8 2001, of 5 and 7 3002.
        self.assertEqual(whole_weavings((straight(5), straight(6)), R1, 1), 462)
        self.assertEqual(whole_weavings((straight(4), straight(8)), R1, 1), 495)
        for call in self.plain_calls:
            self.too_many(call, (straight(5), straight(7)), R1, 1)
            self.too_many(call, (straight(4), straight(4), straight(4)), R1, 1)
            self.too_many(call, (straight(5000),) * 3, R1, 1)
        self.assertEqual(whole_weavings((straight(3), straight(3), straight(2)), R1, 1), 560)

    def test_too_many_though_the_answer_stands_early(self):
        slip = (("take", "a"), ("back", "a"), ("back", "a"))
        hands = (Program(slip + (("again", 100, (("again", 100, (PRINT,)),)),)),)
        self.assertEqual(plain(hands[0], R1, 1, 3)[2], ((2, ("free", 0, 0)),))
        for call in self.plain_calls:
            self.too_many(call, hands, R1, 1)
        # With tags the look is found, and so few weavings are left; those without tags are not asked for.
        self.assertIsNone(passing_weaving(hands, R1, 2, least_steady, 1))
        elder = (("take", "a"), ("back", "a"), ("take", "b"), ("read", "n", "a", 0, 0))
        hands = (Program(elder + (("again", 100, (("again", 100, (PRINT,)),)),)),)
        self.too_many(passing_weaving, hands, BARE1, 1, zero_steady, 1)
        self.assertIsNone(passing_weaving(hands, R1, 2, least_steady, 1))

    def test_wrong_arguments_in_their_order(self):
        large = (straight(3000),)
        for hands in NO_HANDS:
            for call in self.plain_calls:
                self.assertRaises(NoHands, call, hands, R1, 0)
            self.assertRaises(NoHands, passing_weaving, hands, R1, 0, never, 0)
        for size in NO_INTEGERS + [0, 9, -1]:
            for call in self.plain_calls:
                self.assertRaises(NoNumber, call, large, R1, size)
            self.assertRaises(NoNumber, passing_weaving, large, R1, 1, never, size)
        for k in NO_TAG_COUNTS:
            self.assertRaises(NoTags, passing_weaving, large, R1, k, never, 0)
            self.assertRaises(NoTags, passing_weaving, large, R1, k, never, 1)
        for size in (1, 8):
            for call in self.plain_calls:
                call((EMPTY,), R1, size)
            self.assertIsNone(passing_weaving((EMPTY,), R1, 200, never, size))

    def test_programs_stay(self):
        hands = hands_of((("take", "a"), PRINT), (("again", 2, (("take", "aa"),)),))
        blocks = [program.block for program in hands]
        for call in self.plain_calls:
            self.assertEqual(call(hands, R2, 1), call(hands, R2, 1))
        self.assertEqual([program.block for program in hands], blocks)

    def test_other_webs(self):
        hands = hands_of((("give", "a", 2), ("read", "n", "a", 1, 0)))
        self.assertEqual(least_slip(hands, Web((0, 0, 0), ((0, 2),)), 1), (0, 0))
        self.assertIsNone(least_slip(hands, Web((0, 0, 0), ((0, 1),)), 1))


if __name__ == "__main__":
    unittest.main()
