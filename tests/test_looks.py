import unittest

from helpers import DEEP, NO_INTEGERS, NO_TUPLES, Story, random_story, random_web, rng
from staletags.errors import NoGiving, NoNear, NoPast
from staletags.looks import slip_of
from staletags.standings import first_barred
from staletags.webs import Web, row_web

R2 = row_web(2, 1)
R3 = row_web(3, 1)


def plain_slip(story, giving, room):
    """The words of point 9.2."""
    rooms = [deed[1] for deed in story.past if deed[0] == "give"]
    own = rooms[giving]
    newer = len([other for other in rooms[giving + 1:] if other == own])
    if room == own and newer == 0 and story.held[own]:
        return None
    if not story.held[room]:
        return ("free", own, room)
    return ("near", own, room, newer) if room != own else ("elder", own, newer)


class SlipOfTest(unittest.TestCase):
    """Point 9.2: slip_of."""

    def test_no_slip(self):
        self.assertIsNone(slip_of(R2, (("give", 0, 0),), 0, 0))
        past = (("give", 0, 0), ("back", 0), ("give", 1, 5), ("give", 0, 3))
        self.assertIsNone(slip_of(R2, past, 2, 0))
        self.assertIsNone(slip_of(R2, past, 1, 1))

    def test_near(self):
        self.assertEqual(slip_of(R2, (("give", 0, 0), ("give", 1, 1)), 0, 1), ("near", 0, 1, 0))
        past = (("give", 0, 0), ("back", 0), ("give", 1, 5), ("give", 0, 3), ("back", 0))
        self.assertEqual(slip_of(R2, past, 0, 1), ("near", 0, 1, 1))
        self.assertEqual(slip_of(R2, past, 2, 1), ("near", 0, 1, 0))

    def test_free(self):
        past = (("give", 0, 0), ("give", 1, 5), ("back", 1))
        self.assertEqual(slip_of(R2, past, 0, 1), ("free", 0, 1))
        self.assertEqual(slip_of(R2, past, 1, 1), ("free", 1, 1))
        self.assertEqual(slip_of(R3, past, 1, 2), ("free", 1, 2))
        past = (("give", 0, 0), ("back", 0), ("give", 0, 1), ("back", 0))
        self.assertEqual([slip_of(R2, past, giving, 0) for giving in (0, 1)], [("free", 0, 0)] * 2)

    def test_elder(self):
        past = (("give", 0, 0), ("back", 0)) * 20 + (("give", 0, 7),)
        for giving in range(20):
            self.assertEqual(slip_of(R2, past, giving, 0), ("elder", 0, 20 - giving))
        self.assertIsNone(slip_of(R2, past, 20, 0))

    def test_against_the_plain_reading(self):
        dice = rng(181)
        words = set()
        for _ in range(150):
            web = random_web(dice, 6, 2)
            story = random_story(dice, web, dice.choice((3, 200)), dice.randrange(1, 40), dice.random() < 0.5)
            many = len([deed for deed in story.past if deed[0] == "give"])
            for giving in range(many):
                for room in range(len(web.memories)):
                    own = [deed[1] for deed in story.past if deed[0] == "give"][giving]
                    if room == own or story.are_tied(own, room):
                        slip = slip_of(web, story.past, giving, room)
                        self.assertEqual(slip, plain_slip(story, giving, room))
                        words.add(slip and slip[0])
                    else:
                        self.assertRaises(NoNear, slip_of, web, story.past, giving, room)
            self.assertRaises(NoGiving, slip_of, web, story.past, many, 0)
        self.assertEqual(words, {None, "free", "near", "elder"})

    def test_fact_of_looks(self):
        dice = rng(191)
        for turn in range(150):
            web = random_web(dice, 6, 3)
            story = random_story(dice, web, 8, dice.randrange(1, 40), turn % 2 == 0)
            givings = [deed for deed in story.past if deed[0] == "give"]
            for giving, (_, own, tag) in enumerate(givings):
                for room in range(len(web.memories)):
                    if room == own or story.are_tied(own, room):
                        slip = slip_of(web, story.past, giving, room)
                        let = story.held[room] and story.given[room][-1] == tag
                        if slip is None:
                            self.assertTrue(let)
                        elif slip[0] == "free":
                            self.assertFalse(let)
                        elif first_barred(web, story.past) is None:
                            self.assertFalse(let and slip[0] == "elder" and 1 <= slip[2] <= web.memories[own])
                            self.assertFalse(let and slip[0] == "near" and slip[3] == 0 and story.held[own])

    def test_no_past(self):
        wrong = [
            (("back", 0),), (("give", 0, 0), ("give", 0, 1)), [("give", 0, 0)], (("give", 2, 0),), (("give", 0, 200),),
            (("give", 0, -1),), (("give", 0, True),), (("give", 0),), (["give", 0, 0],), (("give", 0, 10 ** 39),), ((),), "give",
        ]
        for past in wrong + NO_TUPLES + DEEP:
            self.assertRaises(NoPast, slip_of, R2, past, 0, 0)
            self.assertRaises(NoPast, slip_of, R2, past, None, 7)
        self.assertIsNone(slip_of(R2, (("give", 0, 199),), 0, 0))
        # A past need not be clean.
        self.assertEqual(slip_of(R2, (("give", 0, 1), ("give", 1, 1)), 1, 0), ("near", 1, 0, 0))

    def test_no_giving(self):
        past = (("give", 0, 0), ("give", 1, 1), ("back", 0))
        for giving in NO_INTEGERS + [2, 3, -1, 10 ** 39]:
            self.assertRaises(NoGiving, slip_of, R2, past, giving, 0)
            self.assertRaises(NoGiving, slip_of, R2, past, giving, None)
        self.assertRaises(NoGiving, slip_of, R2, (), 0, 0)

    def test_no_near(self):
        past = (("give", 0, 0), ("give", 1, 1), ("back", 0))
        for room in NO_INTEGERS + [2, 3, -1, 10 ** 39]:
            self.assertRaises(NoNear, slip_of, R3, past, 0, room)
        self.assertEqual(slip_of(R3, past, 1, 2), ("free", 1, 2))
        self.assertRaises(NoNear, slip_of, Web((0, 0), ()), past, 0, 1)

    def test_long_past(self):
        past = (("give", 1, 0), ("back", 1)) * 3000 + (("give", 1, 0),)
        self.assertEqual(slip_of(R3, past, 0, 1), ("elder", 1, 3000))


if __name__ == "__main__":
    unittest.main()
