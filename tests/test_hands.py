import unittest

from helpers import DEEP, NO_TUPLES, nested, rng
from running import random_program
from staletags.errors import BadProgram, NoRoom
from staletags.hands import Program
from staletags.webs import Web, row_web

PRINT = ("print", "a")

# Statements with parts of all kinds at their bounds.
GOOD = [
    ("num", "a", 0), ("num", "abcdefgh", 10 ** 9), ("num", "z", -10 ** 9), ("sum", "a", "b", "c"), ("sum", "a", "a", "a"),
    ("copy", "a", "b"), ("give", "a", 0), ("give", "a", 60), ("take", "a"), ("back", "a"), ("read", "a", "b", 0, 0),
    ("read", "a", "b", 60, 60), ("write", "a", 0, 0, "b"), ("write", "a", 60, 60, "a"), PRINT, ("print", "end"),
    ("again", 0, ()), ("again", 100, (PRINT,)), ("if", "a", (), ()), ("if", "a", (PRINT,), (PRINT,)),
]

NO_NAMES = ["", "abcdefghi", "A", "a1", "a b", " a", "a\n", "_", b"a", "\u00e9", 1, None, ("a",), ["a"], True]
NO_NUMBERS = [-1, 61, 10 ** 39, True, False, None, "0", (0,), [0], b"0"]
NO_TIMES = [-1, 101, 10 ** 39, True, None, "2", (2,)]
NO_INTEGERS = [10 ** 9 + 1, -10 ** 9 - 1, 10 ** 39, True, False, None, "7", (7,)]
NO_BLOCKS = [[], [PRINT], None, "", 0, {}, range(0)]

BAD = (
    [(), ("nothing", "a"), ("Print", "a"), ("print",), ("print", "a", "b"), ["print", "a"], (b"print", "a"), ("take",), ("take", "a", 0)]
    + [("num", "a"), ("sum", "a", "b"), ("sum", "a", "b", "c", "d"), ("copy", "a"), ("give", "a"), ("back", "a", "b"), ("if", "a", ())]
    + [("read", "a", "b", 0), ("read", "a", "b", 0, 0, 0), ("write", "a", 0, 0), ("write", "a", 0, "b", 0), ("again", 2), ("again", ())]
    + [("again", 2, (), ()), ("if", "a", (), (), ()), ((),), (None,), (0, "a"), ("",), ("print a",), (("print",), "a"), (["print"], "a")]
    + [(word, name) for word in ("take", "back", "print") for name in NO_NAMES]
    + [("num", name, 0) for name in NO_NAMES] + [("num", "a", number) for number in NO_INTEGERS]
    + [part for name in NO_NAMES for part in (("sum", name, "a", "a"), ("sum", "a", name, "a"), ("sum", "a", "a", name))]
    + [part for name in NO_NAMES for part in (("copy", name, "a"), ("copy", "a", name), ("give", name, 0))]
    + [part for name in NO_NAMES for part in (("read", name, "a", 0, 0), ("read", "a", name, 0, 0))]
    + [part for name in NO_NAMES for part in (("write", name, 0, 0, "a"), ("write", "a", 0, 0, name), ("if", name, (), ()))]
    + [part for number in NO_NUMBERS for part in (("give", "a", number), ("read", "a", "b", number, 0), ("read", "a", "b", 0, number))]
    + [part for number in NO_NUMBERS for part in (("write", "a", number, 0, "b"), ("write", "a", 0, number, "b"))]
    + [("again", times, ()) for times in NO_TIMES] + [("again", 2, block) for block in NO_BLOCKS]
    + [part for block in NO_BLOCKS for part in (("if", "a", block, ()), ("if", "a", (), block))]
)


def deep(many, inner=PRINT):
    """A block around others in agains and ifs, the last so many deep, the first counted; and the way to its statement."""
    block, place = (inner,), (0,)
    for turn in range(many - 1):
        block = (("again", 2, block),) if turn % 2 else (("if", "a", (), block),)
        place = ((0,) if turn % 2 else (0, 1)) + place
    return block, place


class ProgramTest(unittest.TestCase):
    """Point 10.1: which programs there are, and where others are wrong."""

    def check(self, block, place):
        with self.assertRaises(BadProgram) as caught:
            Program(block)
        self.assertEqual(caught.exception.place, place)
        self.assertIsInstance(caught.exception.place, tuple)

    def test_good(self):
        for statement in GOOD:
            self.assertEqual(Program((statement,)).block, (statement,))
        self.assertEqual(Program(tuple(GOOD)).block, tuple(GOOD))
        self.assertEqual(Program(()).block, ())

    def test_bad(self):
        for statement in BAD + NO_TUPLES + DEEP:
            self.check((statement,), (0,))
            self.check((PRINT, ("again", 1, (PRINT, PRINT, statement))), (1, 2))
            self.check((("if", "a", (PRINT,), (PRINT, statement)),), (0, 1, 1))
            self.check((("if", "a", (statement,), (statement,)), statement), (0, 0, 0))

    def test_no_tuple(self):
        for block in NO_TUPLES + [[PRINT], list(GOOD), {PRINT: 0}, iter((PRINT,))]:
            self.check(block, ())

    def test_the_first_place(self):
        bad = ("nothing",)
        self.check((PRINT, bad, bad), (1,))
        self.check((("again", 2, (bad,)), bad), (0, 0))
        # What is wrong with a statement itself comes ahead of what is wrong within it.
        self.check((("again", 101, (bad,)),), (0,))
        self.check((("if", "a", (bad,), []),), (0,))
        self.check((("if", "A", (bad,), ()),), (0,))
        self.check((("if", "a", (), (PRINT, ("again", 2, (PRINT, bad)))),), (0, 1, 1, 1))
        self.check((("again", 2, (("again", 2, ()), ("if", "b", (PRINT, ("if", "c", (), (bad,))), (bad,)))),), (0, 1, 0, 1, 1, 0))

    def test_six_and_seven_deep(self):
        for many in range(1, 7):
            block, _ = deep(many)
            self.assertEqual(Program(block).block, block)
        # The statement whose block would be the seventh is none, whatever this block is.
        for inner in ((), (PRINT,), (("nothing",),)):
            for statement in (("again", 2, inner), ("if", "a", inner, ()), ("if", "a", (), inner)):
                self.check(*deep(6, statement))
                if inner != (("nothing",),):
                    Program(deep(5, statement)[0])
        for many in (7, 8, 30):
            self.check(nested(many - 1, lambda block: (("again", 1, block),), (PRINT,)), (0,) * 6)

    def test_a_block_that_is_seven_deep_beside_others(self):
        six = nested(5, lambda block: (("again", 1, block),), (PRINT,))
        seven = (("again", 1, six),)
        Program(six + six)
        self.check(seven, (0,) * 6)
        self.check(six + seven, (1,) + (0,) * 5)
        # A bad statement ahead of it comes first.
        self.check((("if", "a", (("nothing",),), six),), (0, 0, 0))
        self.check((("if", "a", six, (("nothing",),)),), (0, 0) + (0,) * 4 + (0,))

    def test_sixty_and_sixty_one(self):
        Program((PRINT,) * 60)
        self.check((PRINT,) * 61, ())
        Program((("again", 2, (PRINT,) * 59),))
        self.check((("again", 2, (PRINT,) * 60),), ())
        Program((PRINT,) * 20 + (("if", "a", (PRINT,) * 20, (PRINT,) * 19),))
        self.check((PRINT,) * 20 + (("if", "a", (PRINT,) * 20, (PRINT,) * 20),), ())
        Program((("again", 2, ()),) * 60)
        self.check((("again", 2, ()),) * 61, ())
        Program((("again", 2, (("if", "a", (), ()),) * 29),) * 2)
        self.check((("again", 2, (("if", "a", (), ()),) * 29),) * 2 + (PRINT,), ())

    def test_what_is_wrong_comes_ahead_of_too_many(self):
        self.check((PRINT,) * 61 + (("nothing",),), (61,))
        self.check((("again", 2, (PRINT,) * 80),) * 3 + (("again", 2, (PRINT,) * 80 + (0,)),), (3, 80))
        self.check((PRINT,) * 19999, ())
        self.check((PRINT,) * 19999 + (["print", "a"],), (19999,))

    def test_equal(self):
        block = (("again", 2, (PRINT,)), ("num", "a", 1))
        self.assertTrue(Program(block) == Program((("again", 2, (("print", "a"),)), ("num", "a", 1))))
        self.assertFalse(Program(block) != Program(tuple(list(block))))
        for other in ((), block[:1], block[::-1], (("again", 3, (PRINT,)), ("num", "a", 1))):
            self.assertFalse(Program(block) == Program(other))
            self.assertTrue(Program(block) != Program(other))

    def test_equal_to_nothing_else(self):
        program = Program(())
        for thing in NO_TUPLES[:-6] + [(), [], program.block, 0, Web((0,), ()), NoRoom(), BadProgram(())]:
            if not isinstance(thing, Program):
                self.assertIs(program == thing, False)
                self.assertIs(thing == program, False)
                self.assertIs(program != thing, True)

    def test_random_programs(self):
        dice = rng(239)
        for _ in range(100):
            block = random_program(dice, row_web(3, 1), 2, dice.randrange(20)).block
            self.assertEqual(Program(block).block, block)


if __name__ == "__main__":
    unittest.main()
