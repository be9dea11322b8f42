import unittest

from heaps import scripted, state, turned
from helpers import NO_INTEGERS, NO_TAG_COUNTS, NO_TUPLES, random_web, rng
from keeping import ALL_KINDS, by_turns, drawing, hashed, least, least_steady
from staletags.errors import NoNumber, NoTags, NoText, NotKept
from staletags.heap import Heap
from staletags.journals import recovered
from staletags.keepers import steadily
from staletags.standings import begun
from staletags.webs import Web, row_web, tied

R2 = row_web(2, 1)
R3 = row_web(3, 1)


def never(web, k, past, room):
    raise AssertionError("the keeper was asked")


def cells_of(heap):
    return [heap.cells(room) for room in range(len(heap.standing()))]


def random_heap(dice, web, k, keeper, size, deeds):
    """A heap led at random; and for each line of its journal, from none on, what was there behind it."""
    heap = Heap(web, k, keeper, size)
    behind = [(heap.past(), heap.standing(), cells_of(heap))]
    for _ in range(deeds):
        lines = heap.journal().count("\n")
        givings = len(heap.handles())
        try:
            if givings == 0 or dice.random() < 0.4:
                heap.take()
            else:
                giving = dice.randrange(givings)
                own = heap.handles()[giving][0]
                room, cell = dice.choice((own,) + tied(web, own)), dice.randrange(size)
                word = dice.choice(("back", "read", "write", "write"))
                if word == "back":
                    heap.back(giving)
                elif word == "read":
                    heap.read(giving, room, cell)
                else:
                    heap.write(giving, room, cell, dice.choice((0, 7, -7, 10 ** 39, -10 ** 39)))
        except ValueError:
            continue
        if heap.journal().count("\n") > lines:
            behind.append((heap.past(), heap.standing(), cells_of(heap)))
    return heap, behind


class JournalTest(unittest.TestCase):
    """Point 11.1: the journal of a heap."""

    def test_lines(self):
        heap = Heap(R2, 3, least, 2)
        heap.give(1)
        heap.write(0, 1, 1, -12)
        heap.give(0)
        heap.read(1, 0, 0)
        heap.back(0)
        self.assertEqual(heap.journal(), "give 1 0\nput 1 1 -12\ngive 0 1\nback 1\n")

    def test_only_what_was_let(self):
        heap = Heap(R2, 3, least, 1)
        heap.give(0)
        heap.give(1)
        text = heap.journal()
        self.assertEqual(heap.write(0, 1, 0, 5), ("found", 0))
        self.assertEqual(heap.back(0), ("let", 0))
        self.assertEqual(heap.back(0), ("found", 0))
        self.assertEqual(heap.write(0, 0, 0, 5), ("found", 0))
        self.assertEqual(heap.journal(), text + "back 0\n")

    def test_slips_stand_by_the_room_that_was_looked_at(self):
        heap = Heap(row_web(2, 0), 1, lambda web, k, past, room: 0, 1)
        heap.back(heap.give(0))
        heap.give(1)
        self.assertEqual(heap.write(0, 1, 0, 3), ("let", 3))
        self.assertEqual(heap.journal(), "give 0 0\nback 0\ngive 1 0\nput 1 0 3\n")

    def test_numbers(self):
        heap = turned()
        for number in (0, -1, 10 ** 40 - 1, 1 - 10 ** 40):
            heap.write(0, 0, 0, number)
        lines = ["give 0 0", "put 0 0 0", "put 0 0 -1", "put 0 0 " + "9" * 40, "put 0 0 -" + "9" * 40]
        self.assertEqual(heap.journal().split("\n"), lines + [""])

    def test_nothing(self):
        self.assertEqual(Heap(R2, 3, least, 1).journal(), "")


class RecoveredTest(unittest.TestCase):
    """Point 11.1: recovered, and THE FACT OF JOURNALS."""

    def recover(self, text, web=R2, k=3, size=2):
        return recovered(web, k, never, size, text)

    def test_whole(self):
        text = "give 1 0\nput 1 1 -12\ngive 0 1\nback 1\n"
        heap, many = self.recover(text)
        self.assertIsInstance(heap, Heap)
        self.assertEqual(many, len(text))
        past = (("give", 1, 0), ("give", 0, 1), ("back", 1))
        standing = ((True, (1,)), (False, (0,)))
        self.assertEqual(state(heap), (past, standing, [(1, 0), (0, 1)], [(0, 0), (0, -12)], [], 0, text))
        self.assertEqual(heap.read(1, 0, 0), ("let", 0))
        self.assertEqual(heap.read(0, 1, 0), ("found", 0))

    def test_empty(self):
        for text in ("", "\n", "give", "give 0 0", "x\ngive 0 0\n", " give 0 0\n"):
            heap, many = self.recover(text)
            self.assertEqual((many, state(heap)), (0, state(Heap(R2, 3, never, 2))))
            self.assertEqual(heap.standing(), begun(R2))

    def test_up_to_the_first_bad_line(self):
        good = "give 1 2\nput 1 0 5\n"
        bad = [
            "", "give", "give 0", "give 0 0 0", "give 0 0 ", " give 0 0", "give  0 0", "Give 0 0", "give 0 00", "give 00 0", "give 0 01",
            "give 0 +1", "give 0 -0", "give -0 0", "give 0 -1", "give -1 0", "give 2 0", "give 0 3", "give 0 x", "give 0 1_0", "give x 0",
            "give 0 1.", "give 0 ", "give 1 0", "give,0,0", "give 0 1\t", "back", "back 0", "back 2", "back -1", "back 01", "back 1 1",
            "back 1 ", "back", "put", "put 1", "put 1 0", "put 1 0 0 0", "put 0 0 1", "put 2 0 1", "put 1 2 1", "put 1 -1 1", "put 1 0 -0",
            "put 1 0 01", "put 1 0 -01", "put 1 0 +1", "put 1 0 --1", "put 1 0 - 1", "put 1 0 ", "put 1 0 -", "put 1 0 1-", "put 1 00 1",
            "put -1 0 1", "put 1 0 " + "1" * 41, "put 1 0 -" + "1" * 41, "put 1 " + "1" * 41 + " 1", "take 0", "read 1 0 0", "back 1 0",
            "write 1 0 0", "# 1", "give 0 " + "1" * 40, "give " + "1" * 40 + " 0", "back " + "9" * 40, "put 1 " + "9" * 40 + " 0",
        ]
        for row in bad:
            heap, many = self.recover(good + row + "\ngive 0 0\n")
            self.assertEqual((many, heap.journal()), (len(good), good), row)
            self.assertEqual((heap.past(), heap.cells(1)), ((("give", 1, 2),), (5, 0)))

    def test_lines_that_can_be_done(self):
        good = "give 1 2\nput 1 0 5\n"
        rows = ["give 0 2", "give 0 0", "back 1", "put 1 1 0", "put 1 0 " + "1" * 40, "put 1 0 -" + "9" * 40, "put 1 0 -5"]
        for row in rows:
            self.assertEqual(self.recover(good + row + "\n")[1], len(good + row) + 1)
            # A line is whole with its line feed alone.
            self.assertEqual(self.recover(good + row)[1], len(good))

    def test_a_put_of_a_free_room(self):
        text = "give 1 2\nback 1\n"
        heap, many = self.recover(text + "put 1 0 5\ngive 1 0\n")
        self.assertEqual((many, heap.cells(1)), (len(text), (0, 0)))

    def test_cells_there_are(self):
        for size in (1, 8):
            self.assertEqual(self.recover(f"give 0 0\nput 0 {size - 1} 4\n", size=size)[0].cells(0)[-1], 4)
            self.assertEqual(self.recover(f"give 0 0\nput 0 {size} 4\n", size=size)[1], 9)

    def test_barred_tags_and_tags_below_k(self):
        text = "give 0 1\ngive 1 1\nback 0\ngive 0 1\n"
        heap, many = self.recover(text, k=2)
        self.assertEqual((many, heap.journal()), (len(text), text))
        # Looks go by the tags that are shown.
        self.assertEqual((heap.read(0, 0, 0), heap.read(1, 0, 0)), (("let", 0), ("let", 0)))
        self.assertEqual(heap.slips(), [(0, ("elder", 0, 1)), (1, ("near", 1, 0, 0))])
        self.assertEqual(self.recover(text, k=1)[1], 0)

    def test_a_giving_sets_its_cells_to_0(self):
        heap, _ = self.recover("give 0 1\nput 0 0 7\nback 0\n")
        self.assertEqual(heap.cells(0), (7, 0))
        heap, _ = self.recover("give 0 1\nput 0 0 7\nback 0\ngive 0 0\n")
        self.assertEqual(heap.cells(0), (0, 0))

    def test_the_keeper_is_asked_from_there_on(self):
        heap, _ = recovered(R2, 3, scripted(None, 2, 1), 1, "give 0 0\n")
        self.assertEqual(heap.give(1), 1)
        self.assertEqual(heap.handles(), [(0, 0), (1, 2)])
        calls = []

        def keeper(*args):
            calls.append(args)
        heap, _ = recovered(R2, 3, keeper, 1, "give 0 0\n")
        self.assertRaises(NotKept, heap.take)
        self.assertEqual(calls, [(R2, 3, (("give", 0, 0),), 1)])

    def test_cut_anywhere(self):
        dice = rng(223)
        for turn in range(40):
            web = random_web(dice, 4, 2)
            k, size = dice.randrange(3, 7), dice.choice((1, 2, 8))
            steady = dice.choice((least_steady, hashed(turn)))
            heap, behind = random_heap(dice, web, k, steadily(steady), size, 25)
            text = heap.journal()
            self.assertEqual(text.count("\n"), len(behind) - 1)
            for cut in range(len(text) + 1):
                other, many = recovered(web, k, never, size, text[:cut])
                whole = text[:cut].rfind("\n") + 1
                self.assertEqual(many, whole)
                past, standing, cells = behind[text[:cut].count("\n")]
                told = (past, standing, [deed[1:] for deed in past if deed[0] == "give"], cells, [], 0, text[:whole])
                self.assertEqual(state(other), told)

    def test_what_a_steady_keeper_gives_from_there_on(self):
        dice = rng(227)
        for turn in range(40):
            web = random_web(dice, 4, 2)
            k = dice.randrange(3, 7)
            keeper = steadily(hashed(turn))
            heap, _ = random_heap(dice, web, k, keeper, 1, 20)
            other, many = recovered(web, k, keeper, 1, heap.journal())
            self.assertEqual(many, len(heap.journal()))
            for seed in range(2):
                one, two = heap.copy(), other.copy()
                for room in dice.sample(range(len(web.memories)), len(web.memories)):
                    self.assertEqual(self.given(one, room), self.given(two, room))
                self.assertEqual(state(one)[:4] + state(one)[6:], state(two)[:4] + state(two)[6:])

    def given(self, heap, room):
        try:
            return heap.give(room)
        except ValueError as error:
            return type(error), vars(error)

    def test_other_keepers_journals(self):
        dice = rng(229)
        for name in sorted(ALL_KINDS):
            web = random_web(dice, 5, 2)
            heap, _ = random_heap(dice, web, 5, ALL_KINDS[name], 2, 40)
            other, many = recovered(web, 5, never, 2, heap.journal())
            self.assertEqual((many, other.journal()), (len(heap.journal()), heap.journal()))
            self.assertEqual(state(other)[:4], state(heap)[:4])

    def test_random_signs(self):
        dice = rng(233)
        signs = "give back put 0123-\n"
        for _ in range(300):
            heap, _ = random_heap(dice, R3, 4, drawing(1), 2, 8)
            text = list(heap.journal())
            for _ in range(dice.randrange(1, 3)):
                if text:
                    text[dice.randrange(len(text))] = dice.choice(signs)
            text = "".join(text)
            other, many = recovered(R3, 4, never, 2, text)
            # What was done is written just so.
            self.assertEqual(other.journal(), text[:many])

    def test_long(self):
        text = "give 0 0\nback 0\n" * 1176
        heap, many = recovered(row_web(1, 0), 1, never, 1, text)
        self.assertEqual((many, len(heap.handles())), (len(text), 1176))
        self.assertEqual(recovered(R2, 3, never, 1, "\n" * 20000)[1], 0)
        self.assertEqual(recovered(R2, 3, never, 1, "give 0 " + "1" * 19990 + "\n")[1], 0)
        self.assertEqual(recovered(R2, 3, never, 1, " " * 20000)[1], 0)

    def test_wrong_arguments_in_their_order(self):
        for k in NO_TAG_COUNTS:
            self.assertRaises(NoTags, recovered, R2, k, never, 0, None)
        for size in NO_INTEGERS + [0, 9, -1]:
            self.assertRaises(NoNumber, recovered, R2, 3, never, size, None)
            self.assertRaises(NoNumber, recovered, R2, 3, never, size, "")
        for text in NO_TUPLES + [(), ("give 0 0\n",)]:
            if not isinstance(text, str):
                self.assertRaises(NoText, recovered, R2, 3, never, 1, text)
        self.assertRaises(NoText, recovered, R2, 3, never, 1, b"give 0 0\n")

    def test_other_webs(self):
        text = Heap(Web((0,), ()), 1, by_turns, 1)
        text.take()
        self.assertEqual(recovered(Web((0,), ()), 1, never, 1, text.journal())[1], 9)


if __name__ == "__main__":
    unittest.main()
