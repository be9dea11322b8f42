import unittest

from helpers import NO_TUPLES, random_web, rng
from running import random_program
from staletags.errors import BadProgram, BadText, BadWeb
from staletags.hands import Program
from staletags.texts import program_text, read_program, read_web, web_text
from staletags.webs import Web, grid_web, ring_web, row_web

NO_STRINGS = [thing for thing in NO_TUPLES if not isinstance(thing, str)] + [(), ("rooms 0",), (0, "rooms 0")]

# Words that are no number: others than digits, a needless 0, 11 digits.
NO_NUMBERS = ["", "x", "+1", "-1", "-0", "00", "01", "007", "1.", "1_0", "0x1", "1e1", "--1", "1-", "\u00b2", "1" * 11, "0" * 11, "1\t", "1,"]
NO_NAMES = ["", "A", "aB", "abcdefghi", "a1", "1", "-", "a_b", "a.", "\u00e9", "a\t"]

# A text with all kinds of statements, and its block.
ALL = """num n 7
num bee -1000000000
sum n n bee
copy c n
give g 60
take t
back g
read r g 0 60
write g 60 0 n
print r
again 100 do
print n
if n do
again 0 do
end
else
print c
end
end
if c do
else
end"""
ALL_BLOCK = (
    ("num", "n", 7), ("num", "bee", -10 ** 9), ("sum", "n", "n", "bee"), ("copy", "c", "n"), ("give", "g", 60), ("take", "t"),
    ("back", "g"), ("read", "r", "g", 0, 60), ("write", "g", 60, 0, "n"), ("print", "r"),
    ("again", 100, (("print", "n"), ("if", "n", (("again", 0, ()),), (("print", "c"),)))), ("if", "c", (), ()),
)


class TextTest(unittest.TestCase):
    def bad(self, call, text, line):
        with self.assertRaises(BadText) as caught:
            call(text)
        self.assertEqual(caught.exception.line, line, text)


class WebTextTest(TextTest):
    """Point 13.1: web_text and read_web."""

    def test_written(self):
        self.assertEqual(web_text(Web((1, 0, 30), ((0, 1), (0, 2)))), "rooms 1 0 30\ntie 0 1\ntie 0 2")
        self.assertEqual(web_text(Web((5,), ())), "rooms 5")
        self.assertEqual(web_text(row_web(60, 0)).split("\n")[-1], "tie 58 59")

    def test_read(self):
        web = read_web("rooms 1 0 30\ntie 0 1\ntie 0 2")
        self.assertEqual((web.memories, web.ties), ((1, 0, 30), ((0, 1), (0, 2))))
        self.assertEqual(read_web("rooms 0"), Web((0,), ()))

    def test_there_and_back(self):
        dice = rng(311)
        for web in [row_web(60, 30), ring_web(60, 0), grid_web(7, 8, 3)] + [random_web(dice) for _ in range(100)]:
            text = web_text(web)
            self.assertEqual(read_web(text), web)
            self.assertEqual(web_text(read_web(text)), text)

    def test_no_string(self):
        for thing in NO_STRINGS:
            self.bad(read_web, thing, 0)

    def test_bad_lines(self):
        for row in (
            "", "rooms", "rooms 1", "tie", "tie 0", "tie 0 1 2", "tie 0 1 ", " tie 0 1", "tie  0 1", "tie 0  1", "Tie 0 1", "tie,0,1",
            "ties 0 1", "end",
        ):
            self.bad(read_web, "rooms 1 1\n" + row, 2)
            self.bad(read_web, "rooms 1 1 1\ntie 0 1\n" + row + "\ntie 1 2", 3)
        for row in ("", "room 1", "rooms 1 ", " rooms 1", "rooms  1", "rooms1", "rooms ", "Rooms 1", "tie 0 1", "tie", "1", "rooms,1"):
            self.bad(read_web, row, 1)
            self.bad(read_web, row + "\ntie 0 1", 1)

    def test_no_lines_and_needless_ones(self):
        self.bad(read_web, "", 1)
        self.bad(read_web, "\n", 1)
        self.bad(read_web, "\nrooms 1", 1)
        self.bad(read_web, "rooms 1\n", 2)
        self.bad(read_web, "rooms 1 1\ntie 0 1\n", 3)
        self.bad(read_web, "rooms 1 1\n\ntie 0 1", 2)

    def test_numbers(self):
        for word in NO_NUMBERS:
            self.bad(read_web, "rooms " + word, 1)
            self.bad(read_web, "rooms 1 " + word + " 1", 1)
            self.bad(read_web, "rooms 1 1\ntie 0 " + word, 2)
            self.bad(read_web, "rooms 1 1\ntie " + word + " 1", 2)
        # Numbers of 10 digits are written so, and no memory or room then.
        for word in ("31", "9999999999"):
            self.web_is_bad("rooms 1 " + word, "memories")
            self.web_is_bad("rooms 1 1\ntie 0 " + word, 0)

    def web_is_bad(self, text, part):
        with self.assertRaises(BadWeb) as caught:
            read_web(text)
        self.assertEqual(caught.exception.part, part)

    def test_bad_webs(self):
        self.web_is_bad("rooms", "memories")
        self.web_is_bad("rooms" + " 0" * 61, "memories")
        self.web_is_bad("rooms" + " 0" * 9990, "memories")
        self.web_is_bad("rooms\ntie 0 1", "memories")
        self.web_is_bad("rooms 0 0\ntie 1 0", 0)
        self.web_is_bad("rooms 0 0 0\ntie 0 1\ntie 0 1", 1)
        self.web_is_bad("rooms 0 0 0\ntie 1 2\ntie 0 1", 1)
        self.web_is_bad("rooms 0 0 0\ntie 0 1\ntie 1 3", 1)

    def test_bad_texts_come_ahead_of_bad_webs(self):
        self.bad(read_web, "rooms\ntie 0", 2)
        self.bad(read_web, "rooms 31 31\ntie 1 0\ntie 0 1 ", 3)

    def test_the_first_bad_line(self):
        self.bad(read_web, "rooms 0 0\ntie 0\nrooms", 2)
        self.bad(read_web, "x\ny", 1)

    def test_long(self):
        self.bad(read_web, "\n" * 20000, 1)
        self.bad(read_web, "rooms 0 0\n" + "tie 0 1\n" * 2498, 2500)
        self.bad(read_web, "rooms " + "1" * 19000, 1)


class ProgramTextTest(TextTest):
    """Point 13.1: program_text and read_program."""

    def test_written(self):
        self.assertEqual(program_text(Program(ALL_BLOCK)), ALL)
        self.assertEqual(program_text(Program(())), "")
        self.assertEqual(program_text(Program((("again", 2, ()),))), "again 2 do\nend")

    def test_read(self):
        self.assertEqual(read_program(ALL).block, ALL_BLOCK)
        self.assertIsInstance(read_program(ALL), Program)
        self.assertEqual(read_program("").block, ())
        self.assertEqual(read_program("again 2 do\nend").block, (("again", 2, ()),))
        self.assertEqual(read_program("print end").block, (("print", "end"),))
        self.assertEqual(read_program("again 3 do\nprint do\nend").block, (("again", 3, (("print", "do"),)),))

    def test_there_and_back(self):
        dice = rng(313)
        for _ in range(200):
            program = random_program(dice, row_web(3, 1), 2, dice.randrange(25), dice.choice(("abn", ["a", "bee", "abcdefgh"])))
            text = program_text(program)
            self.assertEqual(read_program(text), program)
            self.assertEqual(program_text(read_program(text)), text)

    def test_no_string(self):
        for thing in NO_STRINGS:
            self.bad(read_program, thing, 0)

    def bad_row(self, row):
        self.bad(read_program, row, 1)
        self.bad(read_program, "print a\n" + row + "\nprint a", 2)
        self.bad(read_program, "again 2 do\nprint a\n" + row + "\nend", 3)

    def test_bad_lines(self):
        for row in (
            "nothing a", "Print a", "print", "print a b", "print  a", " print a", "print a ", "print\ta", "print,a", "num a", "num a 1 2",
            "num 1 a", "sum a b", "sum a b c d", "copy a", "copy a b c", "give a", "give 0 a", "give a 0 0", "take", "take a 0", "back",
            "read a b 0", "read a b 0 0 0", "read a 0 0 b", "write a 0 0", "write a b 0 0", "write a 0 0 b c", "again 2", "again do",
            "again 2 do ", "again 2  do", "again 2 Do", "again 2 do do", "again a do", "again 2 do print a", "if a", "if do", "if a do else",
            "if 0 do", "if a do ", "if a b do", "do", "else do", "end end", "end ", " end", "else ", "End", "print a do", "rooms 1", "tie 0 1",
        ):
            self.bad_row(row)

    def test_blank_lines(self):
        self.bad(read_program, "print a\n\nprint a", 2)
        self.bad(read_program, "again 2 do\n\nend", 2)
        self.bad(read_program, "\n", 1)
        self.bad(read_program, "\nprint a", 1)
        self.bad(read_program, "print a\n", 2)
        self.bad(read_program, ALL + "\n", 23)
        self.bad(read_program, " ", 1)

    def test_names(self):
        for name in NO_NAMES:
            for row in ("num {} 1", "sum {} a a", "sum a {} a", "sum a a {}", "copy {} a", "copy a {}", "give {} 0", "take {}", "back {}",
                        "read {} a 0 0", "read a {} 0 0", "write {} 0 0 a", "write a 0 0 {}", "print {}", "if {} do"):
                self.bad_row(row.format(name))

    def test_numbers(self):
        rows = ["give a {}", "read a b {} 0", "read a b 0 {}", "write a {} 0 a", "write a 0 {} a", "again {} do"]
        for row in rows:
            for word in NO_NUMBERS:
                self.bad_row(row.format(word))
        for word in NO_NUMBERS:
            if word != "-1":
                self.bad_row("num a " + word)
        for word in ("-01", "-00", "-" + "1" * 11, "- 1", "-", "-x"):
            self.bad_row("num a " + word)
        for number in (0, -1, 1, 10 ** 9, -10 ** 9, 999999999):
            self.assertEqual(read_program(f"num a {number}").block, (("num", "a", number),))

    def program_is_bad(self, text, place):
        with self.assertRaises(BadProgram) as caught:
            read_program(text)
        self.assertEqual(caught.exception.place, place)

    def test_bad_programs(self):
        # Numbers of 10 digits are written so, though no statement has them.
        for row in ("num a 1000000001", "num a -9999999999", "give a 61", "give a 9999999999", "read a b 61 0", "read a b 0 61", "write a 61 0 b",
                    "write a 0 61 b"):
            self.program_is_bad(row, (0,))
            self.program_is_bad("print a\nagain 2 do\nif a do\nelse\nprint a\n" + row + "\nend\nend", (1, 0, 1, 1))
        self.program_is_bad("again 101 do\nend", (0,))
        self.program_is_bad("\n".join(["print a"] * 61), ())
        self.assertEqual(read_program("\n".join(["print a"] * 60)).block, (("print", "a"),) * 60)

    def test_six_and_seven_deep(self):
        for many in (5, 6, 7, 900):
            text = "\n".join(["again 1 do"] * many + ["end"] * many)
            if many == 5:
                self.assertEqual(program_text(read_program(text)), text)
            else:
                self.program_is_bad(text, (0,) * 6)

    def test_bad_texts_come_ahead_of_bad_programs(self):
        self.bad(read_program, "again 101 do\nprint", 2)
        self.bad(read_program, "again 101 do", 2)
        self.bad(read_program, "print a\n" * 61, 62)

    def test_else_and_end_where_they_cannot_stand(self):
        for text, line in (
            ("end", 1), ("else", 1), ("print a\nend", 2), ("again 2 do\nelse\nend", 2), ("again 2 do\nend\nend", 3), ("if a do\nend", 2),
            ("if a do\nelse\nelse\nend", 3), ("if a do\nelse\nend\nend", 4), ("if a do\nelse\nend\nelse", 4), ("if a do\nagain 2 do\nelse", 3),
            ("again 2 do\nif a do\nend\nend", 3), ("if a do\nif b do\nelse\nend\nend", 5),
        ):
            self.bad(read_program, text, line)

    def test_an_end_is_lacking(self):
        for text in ("again 2 do", "again 2 do\nprint a", "if a do", "if a do\nelse", "if a do\nelse\nprint a", "again 2 do\nagain 2 do\nend",
                     "print a\nif a do\nagain 2 do\nend\nelse"):
            self.bad(read_program, text, len(text.split("\n")) + 1)
        # A bad line comes first.
        self.bad(read_program, "again 2 do\nx", 2)
        self.bad(read_program, "again 2 do\n", 2)

    def test_cut_behind_each_line(self):
        rows = ALL.split("\n")
        for many in range(1, len(rows)):
            opened = sum((row.endswith(" do")) - (row == "end") for row in rows[:many])
            text = "\n".join(rows[:many])
            if opened:
                self.bad(read_program, text, many + 1)
            else:
                self.assertEqual(program_text(read_program(text)), text)

    def test_long(self):
        self.bad(read_program, "again 2 do\n" * 1800 + "x", 1801)
        self.bad(read_program, "again 2 do\n" * 1800 + "print a", 1802)
        self.program_is_bad("again 2 do\n" * 1300 + "\n".join(["end"] * 1300), (0,) * 6)
        self.bad(read_program, "\n" * 20000, 1)
        self.bad(read_program, "print " + "a" * 19000, 1)
        self.bad(read_program, "num a " + "1" * 19000, 1)


if __name__ == "__main__":
    unittest.main()
