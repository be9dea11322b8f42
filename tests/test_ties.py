import itertools
import unittest

from helpers import NO_TAG_COUNTS, random_story, random_web, rng
from staletags.errors import NoTags, TooFew, TooMany
from staletags.standings import after, barred, begun
from staletags.ties import anew, clashes, given_anew
from staletags.webs import Web, grid_web, ring_web, row_web, sided_web


def showing(*tags):
    """The standing of rooms that remember none and show these tags; None for a free room that was never given."""
    return tuple((False, ()) if tag is None else (True, (tag,)) for tag in tags)


def plain_clashes(web, standing):
    return [(one, other) for one in range(len(standing)) for other in range(one + 1, len(standing))
            if (one, other) in web.ties and standing[one][0] and standing[other][0] and standing[one][1][0] == standing[other][1][0]]


def plain_anew(web, standing):
    """All lots of rooms are tried."""
    left = plain_clashes(web, standing)
    rooms = sorted({room for tie in left for room in tie})
    lots = [lot for many in range(len(rooms) + 1) for lot in itertools.combinations(rooms, many)]
    return min((len(lot), lot) for lot in lots if all(one in lot or other in lot for one, other in left))[1]


def most_wanted(web):
    """The greatest sum of a room's memory, 1 and how many are tied to it."""
    return max(memory + 1 + sum(room in tie for tie in web.ties) for room, memory in enumerate(web.memories))


def other_ties(dice, web):
    """A web with as many rooms and the same memories."""
    rooms = range(len(web.memories))
    return Web(web.memories, tuple((a, b) for a in rooms for b in rooms if a < b and dice.random() < 0.2))


def random_standing(dice, web, k):
    """A standing behind a clean past of another web, in which most rooms are held."""
    story = random_story(dice, other_ties(dice, web), k, dice.randrange(40), True)
    for room, held in enumerate(story.held):
        tags = [tag for tag in range(k) if tag not in story.barred(room)]
        if not held and tags and dice.random() < 0.8:
            story.do(("give", room, dice.choice(tags)))
    return story.standing()


class ClashesTest(unittest.TestCase):
    """Point 12.1: clashes."""

    def test_ordinary(self):
        web = ring_web(4, 0)
        self.assertEqual(clashes(web, showing(1, 1, 2, 1)), [(0, 1), (0, 3)])
        self.assertEqual(clashes(web, showing(1, 2, 1, 2)), [])
        self.assertEqual(clashes(web, showing(1, None, 1, 1)), [(0, 3), (2, 3)])
        self.assertEqual(clashes(web, begun(web)), [])

    def test_only_what_is_held_and_shown(self):
        web = Web((2, 2, 0), ((0, 1), (1, 2)))
        self.assertEqual(clashes(web, ((True, (3, 1)), (True, (1, 3)), (True, (1,)))), [(1, 2)])
        self.assertEqual(clashes(web, ((False, (1,)), (True, (1,)), (False, (1,)))), [])
        self.assertEqual(clashes(web, ((False, ()), (False, ()), (True, (1,)))), [])

    def test_beside_the_plain_reading(self):
        dice = rng(331)
        many = 0
        for _ in range(300):
            web = random_web(dice, 9, 3)
            standing = random_standing(dice, web, 5)
            told = clashes(web, standing)
            self.assertIsInstance(told, list)
            self.assertEqual(told, plain_clashes(web, standing))
            self.assertEqual(told, sorted(told))
            many += told != []
        self.assertGreater(many, 80)

    def test_none_after_a_clean_past(self):
        dice = rng(337)
        for _ in range(100):
            web = random_web(dice)
            standing = random_story(dice, web, 12, 40, True).standing()
            self.assertEqual((clashes(web, standing), anew(web, standing)), ([], ()))
            self.assertEqual(given_anew(web, 40, standing), ())


class AnewTest(unittest.TestCase):
    """Point 12.1: anew, and THE FACT OF TIES."""

    def test_ordinary(self):
        self.assertEqual(anew(row_web(2, 0), showing(0, 0)), (0,))
        self.assertEqual(anew(row_web(3, 0), showing(0, 0, 0)), (1,))
        self.assertEqual(anew(row_web(4, 0), showing(0, 0, 0, 0)), (0, 2))
        self.assertEqual(anew(ring_web(5, 0), showing(0, 0, 0, 0, 0)), (0, 1, 3))
        self.assertEqual(anew(sided_web((1,) * 5, 0), showing(0, 0, 0, 0, 0)), (0, 1, 2, 3))
        self.assertEqual(anew(row_web(1, 0), showing(0)), ())
        self.assertEqual(anew(row_web(3, 0), showing(0, 1, 0)), ())

    def test_fewer_rooms_come_ahead_of_lesser_ones(self):
        star = Web((0,) * 5, ((0, 4), (1, 4), (2, 4), (3, 4)))
        self.assertEqual(anew(star, showing(7, 7, 7, 7, 7)), (4,))
        self.assertEqual(anew(star, showing(7, 7, 8, 7, 7)), (4,))
        self.assertEqual(anew(star, showing(7, 8, 8, 9, 7)), (0,))

    def test_beside_all_lots(self):
        dice = rng(347)
        sizes = set()
        for _ in range(300):
            web = random_web(dice, 9, 1)
            standing = random_standing(dice, web, 4)
            lot = anew(web, standing)
            self.assertEqual(lot, plain_anew(web, standing))
            sizes.add(len(lot))
        self.assertGreater(max(sizes), 3)

    def test_fewer_rooms_are_never_enough(self):
        # However fewer rooms are given anew, the clash of two others stays.
        dice = rng(349)
        for _ in range(60):
            web = random_web(dice, 7, 1)
            standing = random_standing(dice, web, 3)
            lot = anew(web, standing)
            for fewer in itertools.combinations(range(len(standing)), max(0, len(lot) - 1)):
                left = [tie for tie in clashes(web, standing) if tie[0] not in fewer and tie[1] not in fewer]
                self.assertEqual(left == [], not lot)

    def test_sixteen_and_seventeen(self):
        for many in (16, 17, 60):
            web = row_web(many, 0)
            for call, args in ((anew, (web,)), (given_anew, (web, 3))):
                if many == 16:
                    self.assertEqual(len(call(*args, showing(*[5] * many))), 8 if call is anew else 16)
                    continue
                with self.assertRaises(TooMany) as caught:
                    call(*args, showing(*[5] * many))
                self.assertEqual(caught.exception.most, 16)
            self.assertEqual(len(clashes(web, showing(*[5] * many))), many - 1)
        # Rooms that do not clash are not counted.
        self.assertEqual(anew(row_web(60, 0), showing(*[5] * 16, *range(6, 50))), (0, 2, 4, 6, 8, 10, 12, 14))
        self.assertEqual(anew(row_web(60, 0), showing(*[5] * 16, *[None, 5] * 22)), (0, 2, 4, 6, 8, 10, 12, 14))

    def test_sixteen_rooms_all_tied(self):
        self.assertEqual(anew(sided_web((1,) * 8, 0), showing(*[0] * 8)), tuple(range(7)))
        web = Web((0,) * 16, tuple(itertools.combinations(range(16), 2)))
        self.assertEqual(anew(web, showing(*[0] * 16)), tuple(range(15)))
        self.assertEqual(anew(sided_web((8, 8), 0), showing(*[0] * 16)), tuple(range(8)))


class GivenAnewTest(unittest.TestCase):
    """Point 12.1: given_anew."""

    def check(self, web, k, standing):
        deeds = given_anew(web, k, standing)
        self.assertIsInstance(deeds, tuple)
        self.assertEqual([deed[:2] for deed in deeds], [(word, room) for room in anew(web, standing) for word in ("back", "give")])
        for deed in deeds:
            if deed[0] == "give":
                self.assertIs(type(deed[2]), int)
                self.assertIn(deed[2], range(k))
                self.assertNotIn(deed[2], barred(web, standing, deed[1]))
            standing = after(web, standing, deed)
        self.assertEqual(clashes(web, standing), [])
        return deeds

    def test_ordinary(self):
        self.check(row_web(3, 1), 4, ((True, (0,)), (True, (0,)), (True, (0,))))
        self.check(row_web(3, 0), 3, showing(9, 9, 9))
        self.assertEqual(given_anew(row_web(3, 0), 3, showing(0, 1, 0)), ())
        self.assertEqual(self.check(row_web(2, 0), 2, showing(0, 0)), (("back", 0), ("give", 0, 1)))
        # All tags but one are barred.
        self.assertEqual(self.check(row_web(2, 1), 3, ((True, (0,)), (True, (0,))))[1][:2], ("give", 0))
        self.assertEqual(self.check(Web((2, 0), ((0, 1),)), 4, ((True, (3, 0)), (True, (3,)))), (("back", 0), ("give", 0, 1)))

    def test_random(self):
        dice = rng(353)
        many = 0
        for _ in range(300):
            web = random_web(dice, 9, 3)
            k = most_wanted(web) + dice.choice((0, 0, 1, 5))
            many += self.check(web, k, random_standing(dice, web, dice.choice((4, 5, 40)))) != ()
        self.assertGreater(many, 80)

    def test_the_greatest_sum_and_one_fewer(self):
        dice = rng(359)
        for _ in range(60):
            web = random_web(dice, 9, 3)
            standing = random_standing(dice, web, 5)
            k = most_wanted(web)
            self.check(web, k, standing)
            if k > 1:
                self.assertRaises(TooFew, given_anew, web, k - 1, standing)
                self.assertRaises(TooFew, given_anew, web, 1, standing)
        # It is the sum that counts, of rooms without a clash, too.
        web = Web((0, 0, 5), ((0, 1),))
        self.assertRaises(TooFew, given_anew, web, 5, showing(1, 1, None))
        self.check(web, 6, showing(1, 1, None))
        web = Web((3, 0, 0), ((0, 1), (0, 2), (1, 2)))
        self.assertRaises(TooFew, given_anew, web, 5, begun(web))
        self.assertEqual(given_anew(web, 6, begun(web)), ())

    def test_wrong_arguments_in_their_order(self):
        web = grid_web(6, 3, 0)
        clashing = showing(*[0] * 18)
        for k in NO_TAG_COUNTS:
            self.assertRaises(NoTags, given_anew, web, k, clashing)
        self.assertRaises(TooFew, given_anew, web, 4, clashing)
        self.assertRaises(TooMany, given_anew, web, 5, clashing)
        self.assertRaises(TooMany, given_anew, web, 200, clashing)

    def test_standings_stay(self):
        web, standing = row_web(3, 0), showing(1, 1, 1)
        one, other = clashes(web, standing), clashes(web, standing)
        one.clear()
        self.assertEqual(clashes(web, standing), other)
        self.assertEqual(given_anew(web, 3, standing), given_anew(web, 3, showing(1, 1, 1)))
        self.assertEqual(standing, showing(1, 1, 1))


if __name__ == "__main__":
    unittest.main()
