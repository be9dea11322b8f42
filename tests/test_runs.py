import unittest

from helpers import NO_INTEGERS, NO_TAG_COUNTS, random_web, rng
from keeping import ALL_KINDS, breaking_off, by_turns, drawing, greatest, least, longest_ago
from running import random_program, read_clause, read_plain, read_tagged
from staletags.errors import Full, NoNumber, NoRoom, NotFree, NotKept, NoTags
from staletags.hands import Program
from staletags.runs import found_always, plain, tagged
from staletags.webs import Web, ring_web, row_web

R1 = row_web(1, 1)
R2 = row_web(2, 1)
R3 = row_web(3, 1)
BARE = row_web(2, 0)


def program(*statements):
    return Program(statements)


def zero(web, k, past, room):
    return 0


def never(web, k, past, room):
    raise AssertionError("the keeper was asked")


def rounds(times, *statements):
    return ("again", times, statements)


class PlainTest(unittest.TestCase):
    """Point 10.2: plain."""

    def said(self, *statements, web=R3, size=1):
        word, said, _ = plain(program(*statements), web, size, 5000)
        return word, said

    def test_numbers_and_names(self):
        self.assertEqual(self.said(("print", "a"), ("num", "a", -5), ("print", "a")), ("over", (0, -5)))
        self.assertEqual(self.said(("num", "a", 3), ("num", "b", -4), ("sum", "c", "a", "b"), ("print", "c")), ("over", (-1,)))
        self.assertEqual(self.said(("num", "a", 3), ("sum", "a", "a", "a"), ("print", "a")), ("over", (6,)))
        self.assertEqual(self.said(("num", "a", 3), ("copy", "b", "a"), ("num", "a", 4), ("print", "b")), ("over", (3,)))
        self.assertEqual(self.said(("num", "abc", 3), ("print", "abc"), ("print", "ab")), ("over", (3, 0)))
        self.assertEqual(self.said(), ("over", ()))

    def test_large_numbers(self):
        double = ("sum", "n", "n", "n")
        word, said = self.said(("num", "n", 10 ** 9), rounds(100, rounds(48, double)), ("print", "n"))
        self.assertEqual((word, said), ("over", (10 ** 9 * 2 ** 4800,)))
        word, said = self.said(("num", "n", -10 ** 9), rounds(100, rounds(40, double)), ("print", "n"))
        self.assertEqual((word, said), ("over", (-10 ** 9 * 2 ** 4000,)))

    def test_again_and_if(self):
        self.assertEqual(self.said(rounds(3, ("num", "a", 1), ("print", "a")), ("print", "b")), ("over", (1, 1, 1, 0)))
        self.assertEqual(self.said(rounds(0, ("print", "a")), ("print", "b")), ("over", (0,)))
        self.assertEqual(self.said(rounds(2, rounds(3, ("sum", "a", "a", "b"), ("print", "b"))), ("num", "b", 1))[1], (0,) * 6)
        count = (("num", "b", 1), ("sum", "a", "a", "b"), ("print", "a"))
        self.assertEqual(self.said(rounds(2, rounds(2, *count), ("num", "a", 5)), ("print", "a"))[1], (1, 2, 6, 7, 5))
        choice = ("if", "a", (("num", "b", 1), ("print", "b")), (("num", "b", 2), ("print", "b")))
        for number, said in ((0, 2), (1, 1), (-1, 1), (10 ** 9, 1)):
            self.assertEqual(self.said(("num", "a", number), choice), ("over", (said,)))
        self.assertEqual(self.said(("if", "a", (("print", "a"),), ()), ("print", "b")), ("over", (0,)))
        # What the name holds when the if is begun tells, not what it holds within.
        turn = ("if", "a", (("num", "a", 0), ("print", "a")), (("num", "a", 1), ("print", "a")))
        self.assertEqual(self.said(rounds(4, turn)), ("over", (1, 0, 1, 0)))

    def test_rooms_and_cells(self):
        lines = (("take", "a"), ("take", "b"), ("num", "n", 5), ("write", "a", 0, 1, "n"), ("read", "m", "a", 0, 1), ("print", "m"))
        self.assertEqual(plain(program(*lines), R3, 2, 99), ("over", (5,), ()))
        # The first tied room of room 1 is 0, the second one 2.
        lines = (("give", "a", 1), ("give", "b", 0), ("give", "c", 2), ("num", "n", 5), ("write", "a", 1, 0, "n"), ("num", "n", 6),
                 ("write", "a", 2, 0, "n"), ("read", "m", "b", 0, 0), ("print", "m"), ("read", "m", "c", 0, 0), ("print", "m"))
        self.assertEqual(plain(program(*lines), R3, 1, 99), ("over", (5, 6), ((4, ("near", 1, 0, 0)), (6, ("near", 1, 2, 0)))))
        # From each giving on cells hold 0.
        lines = (("give", "a", 1), ("num", "n", 5), ("write", "a", 0, 0, "n"), ("back", "a"), ("give", "a", 1), ("read", "n", "a", 0, 0))
        self.assertEqual(plain(program(*lines, ("print", "n")), R3, 1, 99), ("over", (0,), ()))

    def test_free_rooms_keep_their_cells(self):
        lines = (("take", "a"), ("num", "n", 5), ("write", "a", 0, 0, "n"), ("back", "a"), ("read", "m", "a", 0, 0), ("print", "m"),
                 ("num", "n", 6), ("write", "a", 0, 0, "n"), ("read", "m", "a", 0, 0), ("print", "m"), ("back", "a"), ("back", "a"))
        free = ("free", 0, 0)
        told = ("over", (5, 6), tuple((place, free) for place in (4, 7, 8, 10, 11)))
        self.assertEqual(plain(program(*lines), R1, 1, 99), told)
        # A free room that is tied, never given so far.
        lines = (("give", "a", 0), ("num", "n", 5), ("write", "a", 1, 0, "n"), ("read", "m", "a", 1, 0), ("print", "m"))
        self.assertEqual(plain(program(*lines), R2, 1, 99), ("over", (5,), ((2, ("free", 0, 1)), (3, ("free", 0, 1)))))

    def test_slips(self):
        # Back through an elder handle frees the room that the newer giving holds.
        lines = (("take", "a"), ("back", "a"), ("take", "b"), ("back", "a"), ("take", "c"), ("read", "n", "b", 0, 0), ("back", "a"))
        slips = ((3, ("elder", 0, 1)), (5, ("elder", 0, 1)), (6, ("elder", 0, 2)))
        self.assertEqual(plain(program(*lines), R1, 1, 99), ("over", (), slips))
        lines = (("give", "a", 0), ("back", "a"), ("give", "b", 0), ("give", "c", 1), ("read", "n", "a", 1, 0), ("read", "n", "b", 1, 0),
                 ("back", "b"), ("read", "n", "b", 1, 0), ("read", "n", "c", 1, 0))
        slips = ((4, ("near", 0, 1, 1)), (5, ("near", 0, 1, 0)), (7, ("near", 0, 1, 0)), (8, ("free", 1, 0)))
        self.assertEqual(plain(program(*lines), R2, 1, 99), ("over", (), slips))

    def test_statements_are_counted_as_they_are_begun(self):
        lines = (("take", "a"), rounds(2, ("if", "n", (), (("read", "n", "a", 1, 0),)), rounds(0)), rounds(3), ("read", "n", "a", 1, 0))
        # take 0, again 1, if 2, read 3, again 4, if 5, read 6, again 7, again 8, read 9.
        slips = tuple((place, ("free", 0, 1)) for place in (3, 6, 9))
        self.assertEqual(plain(program(*lines), R2, 1, 99), ("over", (), slips))
        self.assertEqual([plain(program(*lines), R2, 1, most)[0] for most in (0, 1, 9, 10, 11)], ["on"] * 3 + ["over"] * 2)
        self.assertEqual([len(plain(program(*lines), R2, 1, most)[2]) for most in (3, 4, 6, 7, 9, 10)], [0, 1, 1, 2, 2, 3])

    def test_most(self):
        self.assertEqual(plain(program(), R1, 1, 0), ("over", (), ()))
        self.assertEqual(plain(program(("print", "a")), R1, 1, 0), ("on", (), ()))
        self.assertEqual(plain(program(("print", "a")), R1, 1, 1), ("over", (0,), ()))
        self.assertEqual(plain(program(rounds(2, ("print", "a"))), R1, 1, 2), ("on", (0,), ()))
        self.assertEqual(plain(program(rounds(2, ("print", "a"))), R1, 1, 3), ("over", (0, 0), ()))
        # What would end the run is not begun yet.
        wrong = program(("print", "a"), ("back", "a"))
        self.assertEqual([plain(wrong, R1, 1, most)[0] for most in (0, 1, 2, 5000)], ["on", "on", "wrong", "wrong"])
        # Empty blocks at the end are over with their statement.
        for last in (rounds(100), rounds(0, ("print", "a")), ("if", "a", (("print", "a"),), ())):
            self.assertEqual([plain(program(last), R1, 1, most)[0] for most in (0, 1)], ["on", "over"])

    def test_agains_within_agains(self):
        lines = rounds(100, rounds(100, rounds(100, ("num", "b", 1), ("sum", "a", "a", "b"), ("print", "a"))))
        for most in list(range(640)) + list(range(640, 4990, 61)) + list(range(4990, 5001)):
            word, said, _ = plain(program(lines), R1, 1, most)
            self.assertEqual(word, "on")
            # Two agains ahead of all, one ahead of each 100 rounds of three statements.
            inner = max(0, most - 2)
            prints = inner // 301 * 100 + max(0, inner % 301 - 1) // 3
            self.assertEqual(said, tuple(range(1, prints + 1)), most)
        empty = Program((rounds(100, rounds(100, rounds(100, rounds(100, rounds(100))))),))
        self.assertEqual(plain(empty, R1, 1, 5000), ("on", (), ()))
        self.assertEqual(plain(program(rounds(100, rounds(100), rounds(0, ("take", "a")))), R1, 1, 201)[0], "over")
        self.assertEqual(plain(program(rounds(100, rounds(100), rounds(0, ("take", "a")))), R1, 1, 200)[0], "on")

    def test_held_and_full(self):
        self.assertEqual(plain(program(("print", "n"), ("give", "a", 0), ("give", "b", 0), ("print", "n")), R2, 1, 9), ("held", (0,), ()))
        self.assertEqual(plain(program(("take", "a"), ("give", "b", 0)), R1, 1, 9)[0], "held")
        self.assertEqual(plain(program(rounds(3, ("print", "n"), ("take", "a"))), R2, 1, 99), ("full", (0, 0, 0), ()))
        self.assertEqual(plain(program(("take", "a"), ("back", "a"), ("take", "a")), R1, 1, 9)[0], "over")

    def test_wrong(self):
        wrong = [
            ("back", "n"), ("back", "z"), ("read", "n", "n", 0, 0), ("write", "n", 0, 0, "n"), ("print", "a"), ("sum", "n", "a", "n"),
            ("sum", "n", "n", "a"), ("if", "a", (), ()), ("write", "a", 0, 0, "a"), ("give", "b", 3), ("give", "b", 60), ("give", "b", 2),
            ("read", "n", "a", 2, 0), ("read", "n", "a", 60, 0), ("write", "a", 2, 0, "n"), ("read", "n", "a", 0, 2), ("read", "n", "a", 1, 60),
            ("write", "a", 0, 2, "n"), ("write", "a", 1, 0, "a"),
        ]
        for statement in wrong:
            ahead = (("num", "n", 4), ("give", "a", 0), ("print", "n"))
            told = plain(program(*ahead, statement, ("print", "n")), R2, 2, 99)
            # No slip either: the run ends ahead of it.
            self.assertEqual(told, ("wrong", (4,), ()), statement)
        # A name that held a giving holds a number again, and the other way round.
        lines = (("take", "a"), ("num", "a", 3), ("print", "a"), ("take", "a"), ("read", "a", "a", 0, 0), ("print", "a"), ("back", "a"))
        self.assertEqual(plain(program(*lines), R2, 1, 99), ("wrong", (3, 0), ()))
        self.assertEqual(plain(program(("take", "a"), ("copy", "b", "a"), ("back", "b"), ("back", "a")), R1, 1, 9)[2], ((3, ("free", 0, 0)),))
        self.assertEqual(plain(program(("take", "a"), ("copy", "a", "z"), ("print", "a")), R1, 1, 9)[:2], ("over", (0,)))

    def test_sizes(self):
        for size in (1, 8):
            ahead = (("take", "a"), ("num", "n", 2))
            last = (("write", "a", 0, size - 1, "n"), ("read", "m", "a", 0, size - 1), ("print", "m"))
            self.assertEqual(plain(program(*ahead, *last), R1, size, 9), ("over", (2,), ()))
            self.assertEqual(plain(program(*ahead, ("read", "m", "a", 0, size)), R1, size, 9)[0], "wrong")

    def test_no_number(self):
        lines = program(("take", "a"))
        for size in NO_INTEGERS + [0, 9, -1, 10 ** 39]:
            self.assertRaises(NoNumber, plain, lines, R1, size, 9)
            self.assertRaises(NoNumber, found_always, lines, R1, size, 9)
            self.assertRaises(NoNumber, tagged, lines, R1, 2, never, size, 9)
        for most in NO_INTEGERS + [-1, 5001, 10 ** 39]:
            self.assertRaises(NoNumber, plain, lines, R1, 1, most)
            self.assertRaises(NoNumber, found_always, lines, R1, 1, most)
            self.assertRaises(NoNumber, tagged, lines, R1, 2, never, 1, most)

    def test_beside_the_plain_reading(self):
        dice = rng(241)
        words, clauses = set(), set()
        for turn in range(700):
            web = random_web(dice, 4, 2)
            size = dice.choice((1, 2, 8))
            lines = random_program(dice, web, size, dice.randrange(1, 30), dice.choice(("abn", "abcnm")), dice.choice((0.95, 1)))
            most = dice.choice((5, 20, 60, 5000))
            told = plain(lines, web, size, most)
            self.assertEqual(told, read_plain(lines, web, size, most))
            clause = found_always(lines, web, size, most)
            self.assertEqual(clause, read_clause(lines, web, size, most))
            words.add(told[0])
            clauses.add(clause)
        self.assertEqual(words, {"over", "on", "held", "full", "wrong"})
        self.assertEqual(clauses, {None, "free", "elder", "near", "open"})


class TaggedTest(unittest.TestCase):
    """Point 10.3: tagged, and THE FACT OF RUNS."""

    def test_found(self):
        lines = (("print", "n"), ("take", "a"), ("take", "b"), ("read", "n", "a", 1, 0), ("print", "n"))
        self.assertEqual(tagged(program(*lines), R2, 3, least, 1, 99), ("found", (0,), (), ("near", 0, 1, 0)))
        lines = (("take", "a"), ("back", "a"), ("print", "n"), ("back", "a"), ("print", "n"))
        self.assertEqual(tagged(program(*lines), R2, 3, least, 1, 99), ("found", (0,), (), ("free", 0, 0)))
        lines = (("take", "a"), ("back", "a"), ("take", "b"), ("read", "n", "a", 0, 0))
        self.assertEqual(tagged(program(*lines), R2, 3, least, 1, 99), ("found", (), (), ("elder", 0, 1)))

    def test_let(self):
        lines = (("take", "a"), ("back", "a"), ("take", "b"), ("num", "n", 3), ("write", "a", 0, 0, "n"), ("read", "m", "b", 0, 0),
                 ("print", "m"), ("back", "a"), ("read", "m", "b", 0, 0))
        passed = ((4, ("elder", 0, 1)), (7, ("elder", 0, 1)))
        self.assertEqual(tagged(program(*lines), row_web(1, 0), 1, zero, 1, 99), ("found", (3,), passed, ("free", 0, 0)))
        self.assertEqual(tagged(program(*lines), row_web(1, 0), 1, zero, 1, 8), ("on", (3,), passed, None))

    def test_words_of_plain(self):
        for lines, word in (
            ((), "over"), ((("take", "a"),), "over"), ((("take", "a"), ("give", "b", 0)), "held"), ((rounds(3, ("take", "a")),), "full"),
            ((("back", "a"),), "wrong"), ((("give", "a", 2),), "wrong"), ((rounds(99, ("print", "a")),), "on"),
        ):
            said = (0,) * 8 if word == "on" else ()
            self.assertEqual(tagged(Program(lines), R2, 3, least, 1, 9), (word, said, (), None))

    def test_words_of_the_keeper(self):
        lines = program(("print", "n"), ("give", "a", 0), ("give", "b", 1), ("print", "n"))
        for tag, word in ((0, "barred"), (None, "stuck"), (3, "odd"), (True, "odd"), ("1", "odd"), (-1, "odd"), ([0], "odd")):
            keeper = breaking_off(zero, 1, tag)
            self.assertEqual(tagged(lines, R2, 3, keeper, 1, 9), (word, (0,), (), None))
            self.assertEqual(tagged(lines, R2, 3, keeper, 1, 2), ("on", (0,), (), None))
        self.assertEqual(tagged(program(("take", "a"), ("take", "b")), R2, 3, zero, 1, 9)[0], "barred")

    def test_the_keeper_is_not_asked_in_vain(self):
        for lines, word in ((("give", "a", 2), "wrong"), (("print", "a"), "over"), (rounds(0, ("take", "a")), "over")):
            self.assertEqual(tagged(program(lines), R2, 3, never, 1, 9)[0], word)
        self.assertEqual(tagged(program(("take", "a")), R2, 3, never, 1, 0)[0], "on")
        keeper = breaking_off(least, 2, "asked once more")
        self.assertEqual(tagged(program(("take", "a"), ("take", "a"), ("give", "a", 1)), R2, 3, keeper, 1, 9)[0], "held")
        self.assertEqual(tagged(program(("take", "a"), ("take", "a"), ("take", "a")), R2, 3, keeper, 1, 9)[0], "full")

    def test_what_the_keeper_is_called_with(self):
        calls = []

        def keeper(*args):
            calls.append(args)
            return len(calls)
        tagged(program(("give", "a", 1), ("back", "a"), ("take", "a")), R2, 4, keeper, 1, 9)
        self.assertEqual(calls, [(R2, 4, (), 1), (R2, 4, (("give", 1, 1), ("back", 1)), 0)])

    def test_a_keepers_own_error_goes_on(self):
        for error in (NotFree(), NoRoom(), Full(), NotKept("barred"), KeyError("a"), IndexError(), ZeroDivisionError(), StopIteration()):
            def keeper(web, k, past, room):
                raise error
            with self.assertRaises(type(error)) as caught:
                tagged(program(("print", "n"), ("take", "a")), R2, 4, keeper, 1, 9)
            self.assertIs(caught.exception, error)

    def test_wrong_arguments_in_their_order(self):
        lines = program(("take", "a"))
        for k in NO_TAG_COUNTS:
            self.assertRaises(NoTags, tagged, lines, R2, k, never, 1, 9)
            self.assertRaises(NoTags, tagged, lines, R2, k, never, 0, -1)
        for k in (1, 200):
            self.assertEqual(tagged(lines, R2, k, least, 8, 5000)[0], "over")

    def test_beside_the_plain_reading(self):
        dice = rng(251)
        words = {}
        for turn in range(900):
            web = random_web(dice, 4, 2) if turn % 3 else Web((dice.randrange(3),), ())
            size = dice.choice((1, 2, 8))
            lines = random_program(dice, web, size, dice.randrange(1, 30), dice.choice(("abn", "abcnm")), dice.choice((0.95, 1)))
            most = dice.choice((5, 20, 60, 5000))
            k = dice.randrange(1, 7)
            keeper = dice.choice([ALL_KINDS[name] for name in sorted(ALL_KINDS)] + [least, zero, drawing(turn)])
            told = tagged(lines, web, k, keeper, size, most)
            self.assertEqual(told, read_tagged(lines, web, k, keeper, size, most))
            self.fact_of_runs(plain(lines, web, size, most), told)
            self.fact_of_looks(found_always(lines, web, size, most), told)
            words[told[0]] = words.get(told[0], 0) + 1
            words["passed"] = words.get("passed", 0) + (told[2] != ())
        self.assertEqual(set(words), {"over", "on", "held", "full", "wrong", "found", "barred", "stuck", "odd", "passed"})
        self.assertGreater(min(words.values()), 3)

    def fact_of_runs(self, wanted, told):
        word, said, passed, slip = told
        self.assertEqual(said, wanted[1][:len(said)])
        self.assertEqual(passed, wanted[2][:len(passed)])
        self.assertEqual(word == "found", slip is not None)
        if slip is not None:
            self.assertEqual(wanted[2][len(passed)][1], slip)
        elif word not in ("barred", "stuck", "odd"):
            self.assertEqual(told[:3], wanted)

    def fact_of_looks(self, clause, told):
        """What found_always tells, of all keepers that give no barred tag: none is given on a heap."""
        if clause in (None, "free", "elder", "near"):
            self.assertEqual(told[2], ())
        if clause is None:
            self.assertIsNone(told[3])

    def test_tagged_against_plain_up_to_the_look_that_is_found(self):
        # Cut behind the statement ahead of the look that is found, both tell the same.
        dice = rng(257)
        many = 0
        for turn in range(400):
            web = random_web(dice, 3, 1)
            lines = random_program(dice, web, 1, dice.randrange(5, 30), "abn", 1)
            keeper = (least, greatest, longest_ago, by_turns)[turn % 4]
            told = tagged(lines, web, 6, keeper, 1, 5000)
            if told[0] == "found":
                place = plain(lines, web, 1, 5000)[2][len(told[2])][0]
                self.assertEqual(tagged(lines, web, 6, keeper, 1, place), plain(lines, web, 1, place) + (None,))
                self.assertEqual(tagged(lines, web, 6, keeper, 1, place), ("on",) + told[1:3] + (None,))
                self.assertEqual(tagged(lines, web, 6, keeper, 1, place + 1), told)
                many += 1
        self.assertGreater(many, 60)


class FoundAlwaysTest(unittest.TestCase):
    """Point 10.4: found_always."""

    def clause(self, *statements, web=R2, most=99):
        return found_always(program(*statements), web, 1, most)

    def test_none(self):
        self.assertIsNone(self.clause())
        self.assertIsNone(self.clause(("take", "a"), ("take", "b"), ("read", "n", "a", 0, 0), ("back", "a")))
        self.assertIsNone(self.clause(("take", "a"), ("back", "n"), ("read", "n", "a", 1, 0)))

    def test_free(self):
        self.assertEqual(self.clause(("take", "a"), ("read", "n", "a", 1, 0)), "free")
        self.assertEqual(self.clause(("take", "a"), ("back", "a"), ("back", "a")), "free")

    def test_elder(self):
        for memory in range(4):
            web = row_web(1, memory)
            for age in range(1, 5):
                lines = [("take", "a"), ("back", "a"), rounds(age - 1, ("take", "b"), ("back", "b")), ("take", "c"), ("read", "n", "a", 0, 0)]
                self.assertEqual(self.clause(*lines, web=web), "elder" if age <= memory else "open")

    def test_near(self):
        near = [("give", "a", 0), ("give", "b", 1), ("read", "n", "a", 1, 0)]
        self.assertEqual(self.clause(*near), "near")
        self.assertEqual(self.clause(near[0], near[1], ("back", "a"), near[2]), "open")
        older = [("give", "a", 0), ("back", "a"), ("give", "c", 0), ("give", "b", 1), ("read", "n", "a", 1, 0)]
        self.assertEqual(self.clause(*older), "open")
        self.assertEqual(self.clause(*older, web=row_web(2, 9)), "open")

    def test_the_first_slip_alone(self):
        near = [("give", "a", 0), ("give", "b", 1), ("read", "n", "a", 1, 0), ("back", "a"), ("read", "n", "a", 1, 0), ("back", "a")]
        self.assertEqual(self.clause(*near), "near")
        self.assertEqual([self.clause(*near, most=most) for most in (0, 2, 3, 4)], [None, None, "near", "near"])
        self.assertEqual(self.clause(near[0], near[1], near[3], near[4], near[5]), "open")

    def test_free_web(self):
        ring = [("give", "a", 0), ("give", "b", 2), ("read", "n", "a", 2, 0)]
        self.assertEqual(self.clause(*ring, web=ring_web(3, 0)), "near")
        self.assertEqual(self.clause(*ring, web=R3), None)

    def test_open_slips_can_pass(self):
        # Of each kind of an open slip there is a keeper without barred tags that lets it.
        for lines, web, keeper in (
            ((("give", "a", 0), ("back", "a"), ("give", "b", 1), ("read", "n", "a", 1, 0)), BARE, zero),
            ((("take", "a"), ("back", "a"), ("take", "b"), ("read", "n", "a", 0, 0)), row_web(1, 0), zero),
        ):
            self.assertEqual(self.clause(*lines, web=web), "open")
            self.assertEqual(len(tagged(Program(lines), web, 3, keeper, 1, 99)[2]), 1)


if __name__ == "__main__":
    unittest.main()
