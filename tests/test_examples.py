import unittest

from staletags.counts import least_enough, least_needed, most_givings, ring_dyed, sided_number
from staletags.hands import Program
from staletags.keepers import led
from staletags.looks import slip_of
from staletags.runs import found_always, plain
from staletags.settling import least_tags
from staletags.standings import after, barred
from staletags.texts import read_program
from staletags.ties import anew, clashes
from staletags.webs import ring_web, row_web, two_lots


class ExamplesTest(unittest.TestCase):
    """The examples of the document, as they stand."""

    r3 = row_web(3, 1)
    s = ((True, (0,)), (False, (1,)), (True, (2,)))
    over = Program((("num", "n", 7), ("give", "a", 0), ("give", "b", 1), ("write", "a", 1, 0, "n"), ("read", "m", "b", 0, 0), ("print", "m")))

    def test_e01(self):
        self.assertEqual(two_lots(self.r3), ((0, 2), (1,)))
        self.assertIsNone(two_lots(ring_web(5, 0)))

    def test_e02(self):
        r3, s = self.r3, self.s
        self.assertEqual(barred(r3, s, 1), (0, 1, 2))
        self.assertEqual(after(r3, s, ("give", 1, 3)), ((True, (0,)), (True, (3,)), (True, (2,))))

    def test_e03(self):
        r3 = self.r3
        told = led(lambda web, k, past, room: 0, r3, 3, (("give", 0), ("give", 2), ("give", 1)))
        self.assertEqual(told, ((("give", 0, 0), ("give", 2, 0), ("give", 1, 0)), "barred"))

    def test_e04(self):
        r3 = self.r3
        self.assertEqual((least_needed(r3), least_enough(r3), most_givings(r3)), (4, 4, 5))
        self.assertEqual(sided_number((2, 3), 1), 4)

    def test_e05(self):
        self.assertEqual(least_tags(row_web(2, 1), 5), 3)
        self.assertEqual(ring_dyed(2, 1), 5)

    def test_e06(self):
        self.assertEqual(slip_of(row_web(2, 1), (("give", 0, 0), ("give", 1, 1)), 0, 1), ("near", 0, 1, 0))

    def test_e07(self):
        self.assertEqual(plain(self.over, row_web(2, 1), 1, 100), ("over", (7,), ((3, ("near", 0, 1, 0)),)))
        self.assertEqual(found_always(self.over, row_web(2, 1), 1, 100), "near")

    def test_e08(self):
        web, standing = row_web(3, 0), ((True, (1,)), (True, (1,)), (True, (1,)))
        self.assertEqual(clashes(web, standing), [(0, 1), (1, 2)])
        self.assertEqual(anew(web, standing), (1,))

    def test_e09(self):
        told = read_program("num n 7\nagain 2 do\nprint n\nend").block
        self.assertEqual(told, (("num", "n", 7), ("again", 2, (("print", "n"),))))


if __name__ == "__main__":
    unittest.main()
