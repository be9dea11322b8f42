import unittest

from helpers import DEEP, NO_INTEGERS, NO_TAG_COUNTS, NO_TUPLES, Story, random_story, random_web, rng
from staletags.errors import NoDeed, NoRoom, NoTags
from staletags.standings import after, barred, begun, first_barred, is_past, standing_of
from staletags.webs import Web, ring_web, row_web

R3 = row_web(3, 1)
# Room 0 remembers nothing, room 1 one tag, room 2 three tags; 0 and 2 are tied.
MIXED = Web((0, 1, 3), ((0, 2),))


class StandingTest(unittest.TestCase):
    """Point 2.1: begun and after."""

    def no_deed(self, web, standing, deed):
        self.assertRaises(NoDeed, after, web, standing, deed)

    def test_begun(self):
        self.assertEqual(begun(row_web(1, 0)), ((False, ()),))
        self.assertEqual(begun(ring_web(60, 30)), ((False, ()),) * 60)

    def test_give_and_back(self):
        one = after(R3, begun(R3), ("give", 1, 5))
        self.assertEqual(one, ((False, ()), (True, (5,)), (False, ())))
        self.assertEqual(after(R3, one, ("back", 1)), ((False, ()), (False, (5,)), (False, ())))

    def test_newest_first_and_no_more_than_remembered(self):
        standing = begun(MIXED)
        seen = []
        for tag in (4, 7, 2, 9):
            standing = after(MIXED, standing, ("give", 2, tag))
            seen.append(standing[2])
            standing = after(MIXED, standing, ("back", 2))
        self.assertEqual(seen, [(True, (4,)), (True, (7, 4)), (True, (2, 7, 4)), (True, (9, 2, 7))])
        self.assertEqual(standing, ((False, ()), (False, ()), (False, (9, 2, 7))))

    def test_room_that_remembers_nothing_keeps_one_tag(self):
        standing = after(MIXED, begun(MIXED), ("give", 0, 4))
        self.assertEqual(standing[0], (True, (4,)))
        standing = after(MIXED, standing, ("back", 0))
        self.assertEqual(standing[0], (False, (4,)))
        self.assertEqual(after(MIXED, standing, ("give", 0, 6))[0], (True, (6,)))

    def test_thirty_are_remembered(self):
        web = row_web(1, 30)
        standing = begun(web)
        for tag in range(33):
            standing = after(web, after(web, standing, ("give", 0, tag)), ("back", 0))
        self.assertEqual(standing, ((False, tuple(range(32, 2, -1))),))

    def test_the_flag_is_a_flag(self):
        standing = after(R3, begun(R3), ("give", 0, 1))
        self.assertIs(standing[0][0], True)
        self.assertIs(after(R3, standing, ("back", 0))[0][0], False)

    def test_tag_may_be_any_number_barred_or_not(self):
        self.assertEqual(after(R3, begun(R3), ("give", 0, 10 ** 39))[0], (True, (10 ** 39,)))
        standing = after(R3, begun(R3), ("give", 0, 200))
        self.assertEqual(after(R3, standing, ("give", 1, 200))[1], (True, (200,)))

    def test_no_deed(self):
        held = after(R3, begun(R3), ("give", 1, 0))
        for standing, deed in [
            (held, ("give", 1, 1)), (held, ("back", 0)), (begun(R3), ("back", 1)), (held, ("give", 3, 0)),
            (held, ("give", -1, 0)), (held, ("back", 3)), (held, ("back", -2)), (held, ("give", 0)),
            (held, ("back", 1, 0)), (held, ("give", 0, 0, 0)), (held, ("give",)), (held, ("back",)), (held, ()),
            (held, ["give", 0, 0]), (held, ["back", 1]), (held, ("take", 0, 0)), (held, ("Give", 0, 0)),
            (held, ("give", 0, -1)), (held, ("give", 0, True)), (held, ("give", False, 0)), (held, ("back", True)),
            (held, (b"give", 0, 0)), (held, (b"back", 1)), (held, ("give", "0", 0)), (held, ("give", 0, "0")),
            (held, "give"), (held, "back"), (held, (("give", 0, 0),)), (held, {"give": 0, "x": 1, "y": 2}),
        ]:
            self.no_deed(R3, standing, deed)

    def test_no_deed_strange_things(self):
        held = after(R3, begun(R3), ("give", 1, 0))
        for thing in NO_TUPLES + DEEP:
            self.no_deed(R3, held, thing)
            if not isinstance(thing, str):
                self.no_deed(R3, held, (thing, 0, 0))
                self.no_deed(R3, held, (thing, 1))
        for thing in NO_INTEGERS:
            self.no_deed(R3, held, ("give", thing, 0))
            self.no_deed(R3, held, ("give", 0, thing))
            self.no_deed(R3, held, ("back", thing))

    def test_against_the_plain_reading(self):
        dice = rng(23)
        for _ in range(60):
            web = random_web(dice)
            story = Story(web)
            standing = begun(web)
            for deed in random_story(dice, web, 5, 40, False).past:
                story.do(deed)
                standing = after(web, standing, deed)
                self.assertEqual(standing, story.standing())
            self.assertEqual(standing_of(web, story.past), standing)


class BarredTest(unittest.TestCase):
    """Point 2.2: barred."""

    def test_shown_by_tied_rooms_that_are_held(self):
        standing = ((True, (5,)), (False, ()), (False, (6,)))
        self.assertEqual(barred(R3, standing, 1), (5,))
        self.assertEqual(barred(R3, standing, 2), (6,))

    def test_of_a_tied_room_just_what_it_shows(self):
        self.assertEqual(barred(MIXED, ((False, ()), (False, ()), (True, (4, 8, 9))), 0), (4,))

    def test_rooms_that_are_not_tied_bar_nothing(self):
        self.assertEqual(barred(MIXED, ((True, (1,)), (False, ()), (True, (2,))), 1), ())

    def test_own_last_ones(self):
        standing = ((False, (7,)), (False, (3,)), (False, (9, 2, 5)))
        self.assertEqual(barred(MIXED, standing, 2), (2, 5, 9))
        self.assertEqual(barred(MIXED, standing, 1), (3,))

    def test_none_of_its_own_if_it_remembers_nothing(self):
        self.assertEqual(barred(MIXED, ((False, (7,)), (False, ()), (False, ())), 0), ())
        self.assertEqual(barred(MIXED, ((True, (7,)), (False, ()), (False, ())), 2), (7,))

    def test_each_tag_once_and_ascending(self):
        star = Web((2, 0, 0, 0), ((0, 1), (0, 2), (0, 3)))
        standing = ((False, (4, 1)), (True, (4,)), (True, (10,)), (True, (4,)))
        self.assertEqual(barred(star, standing, 0), (1, 4, 10))

    def test_of_a_held_room(self):
        self.assertEqual(barred(R3, ((True, (1,)), (True, (2,)), (True, (3,))), 1), (1, 2, 3))

    def test_no_room(self):
        for thing in NO_INTEGERS + [3, -1, 10 ** 39]:
            self.assertRaises(NoRoom, barred, R3, begun(R3), thing)

    def test_against_the_plain_reading(self):
        dice = rng(29)
        for _ in range(60):
            web = random_web(dice)
            story = random_story(dice, web, 6, dice.randrange(30), False)
            standing = standing_of(web, story.past)
            for room in range(len(web.memories)):
                self.assertEqual(barred(web, standing, room), story.barred(room))


class PastTest(unittest.TestCase):
    """Point 2.2: is_past, standing_of, first_barred."""

    def test_standing_of(self):
        self.assertEqual(standing_of(R3, ()), begun(R3))
        past = (("give", 0, 4), ("give", 2, 4), ("back", 0), ("give", 0, 1), ("back", 2))
        self.assertEqual(standing_of(R3, past), ((True, (1,)), (False, ()), (False, (4,))))
        past = tuple(deed for tag in range(5) for deed in (("give", 2, tag), ("back", 2)))
        self.assertEqual(standing_of(MIXED, past)[2], (False, (4, 3, 2)))

    def test_is_past(self):
        past = (("give", 0, 1), ("give", 1, 1), ("back", 0), ("give", 0, 0))
        for k in (2, 3, 200):
            self.assertIs(is_past(R3, k, past), True)
        self.assertIs(is_past(R3, 1, past), False)
        self.assertIs(is_past(R3, 1, ()), True)
        self.assertIs(is_past(R3, 200, (("give", 0, 199),)), True)
        self.assertIs(is_past(R3, 200, (("give", 0, 200),)), False)
        self.assertIs(is_past(R3, 1, (("give", 0, 0),)), True)

    def test_past_that_cannot_be_done(self):
        for past in [
            (("back", 0),), (("give", 0, 0), ("give", 0, 1)), (("give", 0, 0), ("back", 0), ("back", 0)),
            (("give", 0, 0), ("back", 1)), (("give", 3, 0),), (("give", 0),), (("give", 0, 0), ("back", 0, 0)),
            (("give", 0, 0), ("back", False)), (("give", 0, True),), (("give", True, 0),), (["give", 0, 0],),
            [("give", 0, 0)], (("give", 0, -1),), ("give", 0, 0), "give", ((),), (("give", 0, 0), ("back", 0), None),
        ]:
            self.assertIs(is_past(R3, 5, past), False)

    def test_strange_things(self):
        for thing in NO_TUPLES + DEEP:
            self.assertIs(is_past(R3, 5, thing), False)
            self.assertIs(is_past(R3, 5, (("give", 0, 0), thing)), False)
        for thing in NO_INTEGERS:
            self.assertIs(is_past(R3, 5, (("give", 0, thing),)), False)
            self.assertIs(is_past(R3, 5, (("give", thing, 0),)), False)

    def test_no_tags(self):
        for k in NO_TAG_COUNTS:
            self.assertRaises(NoTags, is_past, R3, k, ())
            self.assertRaises(NoTags, is_past, R3, k, None)

    def test_long_past(self):
        past = (("give", 0, 0), ("back", 0)) * 2500
        self.assertIs(is_past(R3, 1, past), True)
        self.assertIs(is_past(R3, 1, past + (("back", 0),)), False)
        self.assertEqual(standing_of(R3, past), ((False, (0,)), (False, ()), (False, ())))

    def test_first_barred(self):
        self.assertIsNone(first_barred(R3, ()))
        self.assertIsNone(first_barred(R3, (("give", 0, 1), ("give", 2, 1), ("give", 1, 0))))
        self.assertEqual(first_barred(R3, (("give", 0, 1), ("give", 1, 1), ("give", 2, 1))), 1)
        self.assertEqual(first_barred(R3, (("give", 0, 1), ("back", 0), ("give", 0, 1))), 2)
        self.assertIsNone(first_barred(MIXED, (("give", 0, 1), ("back", 0), ("give", 0, 1))))
        past = tuple(deed for tag in (1, 2, 3, 1) for deed in (("give", 2, tag), ("back", 2)))
        self.assertEqual(first_barred(Web((3,) * 3, ()), past), 6)
        self.assertIsNone(first_barred(Web((2,) * 3, ()), past))

    def test_first_barred_of_big_tags(self):
        self.assertEqual(first_barred(R3, (("give", 0, 10 ** 39), ("give", 1, 10 ** 39))), 1)

    def test_against_the_plain_reading(self):
        dice = rng(31)
        for _ in range(150):
            web = random_web(dice)
            past = random_story(dice, web, 7, dice.randrange(30), dice.random() < 0.5).past
            wanted = None
            story = Story(web)
            for at, deed in enumerate(past):
                if wanted is None and deed[0] == "give" and deed[2] in story.barred(deed[1]):
                    wanted = at
                story.do(deed)
            self.assertEqual(first_barred(web, past), wanted)
            self.assertIs(is_past(web, 7, past), True)


class FirstFactTest(unittest.TestCase):
    """Point 2.3: which looks are found behind a clean past, and let behind a barred giving."""

    def looks_let(self, story):
        """Of the looks that the first fact speaks of, those that are let."""
        shown = {room: story.given[room][-1] for room in range(len(story.held)) if story.held[room]}
        found = []
        for room, memory in enumerate(story.web.memories):
            for other in range(len(story.held)):
                if story.are_tied(room, other) and room in shown and shown.get(other) == shown[room]:
                    found.append((room, other))
            elder = story.given[room][:-1][::-1][:memory]
            found.extend((room, room) for tag in elder if shown.get(room) == tag)
        return found

    def test_clean_pasts(self):
        dice = rng(37)
        for _ in range(100):
            web = random_web(dice, 6, 3)
            story = Story(web)
            for deed in random_story(dice, web, 9, 40, True).past:
                story.do(deed)
                self.assertIsNone(first_barred(web, story.past))
                self.assertEqual(self.looks_let(story), [])

    def test_barred_givings(self):
        dice = rng(41)
        many = 0
        for _ in range(100):
            web = random_web(dice, 6, 3)
            past = random_story(dice, web, 9, 20, True).past
            standing = standing_of(web, past)
            for room in range(len(web.memories)):
                for tag in barred(web, standing, room) if not standing[room][0] else ():
                    more = past + (("give", room, tag),)
                    self.assertEqual(first_barred(web, more), len(past))
                    self.assertNotEqual(self.looks_let(Story(web, more)), [])
                    many += 1
        self.assertGreater(many, 100)


if __name__ == "__main__":
    unittest.main()
