import unittest

from helpers import DEEP, NO_INTEGERS, NO_TAG_COUNTS, ODD_ONES, random_web, rng
from plain import asks_of, beats, clean_standings, clean_steps, is_kept, plain_walked
from staletags.counts import least_enough, least_needed
from staletags.errors import NoNumber, NoTags, TooMany
from staletags.keepers import by_table
from staletags.settling import is_plan, least_tags, settled
from staletags.standings import begun
from staletags.walks import is_table
from staletags.webs import Web, grid_web, ring_web, row_web, sided_web

R2 = row_web(2, 1)
ONE = row_web(1, 1)
# Of this web 3000 standings come by one tag.
JUST = Web((0, 1, 0, 1, 1, 1, 0, 0), (
    (0, 1), (1, 2), (1, 3), (1, 4), (1, 6), (1, 7), (2, 3), (2, 4), (2, 7), (4, 5), (5, 7)))
# And of this one 3005 by two tags.
MORE = Web((0, 2, 2, 2), ((1, 2), (1, 3)))


def small_webs(seed, many, most):
    """Some pairs of a small random web and k, of no more than so many standings."""
    dice = rng(seed)
    found = []
    while len(found) < many:
        web = random_web(dice, 4, 2)
        k = dice.randint(1, 4)
        if len(web.memories) < 4 or k < 3:
            if len(clean_standings(web, k)) <= most:
                found.append((web, k))
    return found


class SettledTest(unittest.TestCase):
    """Point 6.1: settled."""

    def check(self, web, k, kept):
        word, thing = settled(web, k)
        self.assertEqual(word, "kept" if kept else "fallen")
        self.assertIsInstance(thing, dict)
        self.assertIs(is_table(web, k, thing), kept)
        self.assertIs(is_plan(web, k, thing), not kept)
        if kept:
            self.assertEqual(plain_walked(by_table(thing), web, k)[0][0], "right")
        else:
            self.assertTrue(beats(web, k, thing))

    def test_known_ones(self):
        for web, k, kept in [
            (row_web(1, 0), 1, True), (ONE, 1, False), (ONE, 2, True), (row_web(1, 3), 3, False), (row_web(1, 3), 4, True),
            (R2, 2, False), (R2, 3, True), (row_web(3, 0), 1, False), (row_web(3, 0), 2, True),
            (ring_web(3, 0), 2, False), (ring_web(3, 0), 3, True), (row_web(3, 1), 3, False),
            (sided_web((1, 2), 1), 3, False), (sided_web((1, 1, 1), 0), 2, False), (grid_web(2, 2, 0), 2, True),
            (ring_web(5, 0), 2, False),
        ]:
            self.check(web, k, kept)

    def test_small_tables_and_plans(self):
        self.assertEqual(settled(row_web(1, 0), 1), ("kept", {(((False, ()),), 0): 0, (((False, (0,)),), 0): 0}))
        self.assertEqual(settled(ONE, 1), ("fallen", {
            ((False, ()),): ("give", 0), ((True, (0,)),): ("back", 0), ((False, (0,)),): ("give", 0)}))

    def test_against_the_plain_reading(self):
        words = []
        for web, k in small_webs(67, 60, 700):
            kept = is_kept(web, k)
            words.append(kept)
            self.check(web, k, kept)
        self.assertGreater(min(words.count(True), words.count(False)), 10)

    def test_one_tag_and_two_hundred(self):
        self.check(Web((0, 0, 0), ()), 1, True)
        self.check(row_web(1, 0), 200, True)
        self.check(ONE, 200, True)
        for k in NO_TAG_COUNTS:
            self.assertRaises(NoTags, settled, ONE, k)
            self.assertRaises(NoTags, settled, row_web(60, 0), k)

    def test_just_so_many_standings(self):
        for web, k, many in ((JUST, 1, 3000), (MORE, 2, 3005)):
            self.assertEqual(len(clean_standings(web, k)), many)
        self.check(JUST, 1, False)
        for web, k in ((MORE, 2), (row_web(2, 0), 28), (row_web(60, 30), 1), (row_web(60, 30), 200)):
            with self.assertRaises(TooMany) as caught:
                settled(web, k)
            self.assertEqual(caught.exception.most, 3000)

    def test_results_are_new(self):
        for k in (2, 3):
            word, thing = settled(R2, k)
            before = {**thing}
            thing.clear()
            self.assertEqual(settled(R2, k), (word, before))

    def test_between_the_counts(self):
        for web, k in small_webs(71, 60, 400):
            if k < least_needed(web):
                self.assertEqual(settled(web, k)[0], "fallen")
            if k >= least_enough(web):
                self.assertEqual(settled(web, k)[0], "kept")


class PlanTest(unittest.TestCase):
    """Point 6.1: is_plan."""

    start, held, free = ((False, ()),), ((True, (0,)),), ((False, (0,)),)
    one = {start: ("give", 0), held: ("back", 0), free: ("give", 0)}

    def test_plans(self):
        self.assertIs(is_plan(ONE, 1, self.one), True)
        self.assertIs(is_plan(ONE, 2, self.one), False)
        self.assertIs(is_plan(ONE, 1, {}), False)
        two = {
            ((False, ()), (False, ())): ("give", 0), ((True, (0,)), (False, ())): ("give", 1),
        }
        self.assertIs(is_plan(R2, 1, two), True)
        self.assertIs(is_plan(R2, 2, two), False)

    def test_each_entry_is_wanted(self):
        for standing in self.one:
            self.assertIs(is_plan(ONE, 1, {key: self.one[key] for key in self.one if key != standing}), False)

    def test_none_comes_twice(self):
        web = row_web(1, 0)
        self.assertIs(is_plan(web, 1, self.one), False)
        # A run that goes round another room first.
        web = Web((0, 1), ())
        begin, held, free = (False, ()), (True, (0,)), (False, (0,))
        plan = {(begin, begin): ("give", 1), (begin, held): ("back", 1), (begin, free): ("give", 1)}
        self.assertIs(is_plan(web, 1, plan), True)
        round_first = {**plan, (begin, begin): ("give", 0), (held, begin): ("back", 0), (free, begin): ("give", 0)}
        self.assertIs(is_plan(web, 1, round_first), False)
        once = {
            (begin, begin): ("give", 0), (held, begin): ("back", 0), (free, begin): ("give", 1),
            (free, held): ("back", 1), (free, free): ("give", 1),
        }
        self.assertIs(is_plan(web, 1, once), True)

    def test_one_standing_on_several_runs(self):
        # Runs may lead to one standing in several ways, as long as it comes once along each.
        web = row_web(3, 1)
        word, plan = settled(web, 3)
        behind = [other for standing in plan for other in clean_steps(web, 3, standing)[plan[standing]]]
        self.assertEqual(word, "fallen")
        self.assertGreater(len(behind), len(set(behind)))
        self.assertIs(is_plan(web, 3, plan), True)

    def test_one_entry_changed(self):
        for web, k in ((ONE, 1), (R2, 2), (row_web(1, 2), 2), (ring_web(3, 0), 2), (row_web(2, 1), 1)):
            word, plan = settled(web, k)
            self.assertEqual(word, "fallen")
            for standing in plan:
                less = {**plan}
                del less[standing]
                self.assertIs(is_plan(web, k, less), beats(web, k, less))
                self.assertIs(is_plan(web, k, less), False)
                for ask in asks_of(standing):
                    other = {**plan, standing: ask}
                    self.assertIs(is_plan(web, k, other), beats(web, k, other))
                word, room = plan[standing]
                for ask in [
                    ("back" if word == "give" else "give", room), (word, len(web.memories)), (word, -1), (word, True),
                    (word, False), [word, room], (word,), (word, room, 0), None, word, (word.encode(), room), ("take", room),
                ]:
                    self.assertIs(is_plan(web, k, {**plan, standing: ask}), False)

    def test_others_may_stand_in_it(self):
        web, k = R2, 2
        plan = settled(web, k)[1]
        more = {standing: asks_of(standing)[0] for standing in clean_standings(web, k) if standing not in plan}
        self.assertGreater(len(more), 5)
        self.assertIs(is_plan(web, k, {**plan, **more}), True)
        # Also standings that come by barred tags alone.
        both = ((True, (1,)), (True, (1,)))
        self.assertIs(is_plan(web, k, {**plan, both: ("back", 1)}), True)
        self.assertIs(is_plan(web, k, {**plan, both: ("give", 1)}), False)
        self.assertIs(is_plan(web, k, {**plan, ((True, (2,)), (True, (1,))): ("back", 1)}), False)

    def test_keys_that_are_none(self):
        for key in [
            0, "key", None, (), (False, ()), ((False,),), ((False, (), ()),), ((None, ()),), ((True, ()),), ((1, (0,)),),
            ((False, (0, 0)),), ((False, (1,)),), ((False, 0),), ((False, "0"),), (((False, ()),), 0), begun(R2),
            frozenset(), ((False, (-1,)),), ((False, (10 ** 39,)),), (self.start,),
        ]:
            for ask in (("give", 0), ("back", 0)):
                others = {standing: told for standing, told in self.one.items() if standing != key}
                self.assertIs(is_plan(ONE, 1, {**others, key: ask}), False, key)

    def test_strange_things(self):
        for thing in ODD_ONES + DEEP + [0, 1, [], (), list(self.one.items()), tuple(self.one)]:
            self.assertIs(is_plan(ONE, 1, thing), False)
            for standing in self.one:
                self.assertIs(is_plan(ONE, 1, {**self.one, standing: thing}), False)
                right = type(thing) is int and thing == 0 and standing != self.held
                self.assertIs(is_plan(ONE, 1, {**self.one, standing: ("give", thing)}), right)
        for thing in [None, True, "a", b"", DEEP[0], TooMany, TooMany(3), len, range(2)]:
            self.assertIs(is_plan(ONE, 1, {thing: ("give", 0)}), False)
            self.assertIs(is_plan(ONE, 1, {**self.one, thing: ("give", 0)}), False)
            self.assertIs(is_plan(ONE, 1, {**self.one, ((False, thing),): ("give", 0)}), False)
        self.assertIs(is_plan(ONE, 1, {number: ("give", 0) for number in range(19999)}), False)

    def test_no_tags_and_too_many_ahead_of_all_judging(self):
        for k in NO_TAG_COUNTS:
            self.assertRaises(NoTags, is_plan, ONE, k, self.one)
            self.assertRaises(NoTags, is_plan, row_web(60, 0), k, None)
        for thing in (None, {}, self.one, {0: 0}, 7, DEEP[0]):
            with self.assertRaises(TooMany) as caught:
                is_plan(MORE, 2, thing)
            self.assertEqual(caught.exception.most, 3000)
        self.assertIs(is_plan(JUST, 1, None), False)

    def test_a_long_run(self):
        # So many rooms are given and given back again that the one run is as long as can be.
        web = Web((1,) * 7, ())
        begin, held, free = (False, ()), (True, (0,)), (False, (0,))
        standing = (begin,) * 7
        plan = {}
        for room in range(7):
            for state, word in ((begin, "give"), (held, "back")):
                standing = standing[:room] + (state,) + standing[room + 1:]
                plan[standing] = (word, room)
            standing = standing[:room] + (free,) + standing[room + 1:]
        plan[standing] = ("give", 6)
        self.assertIs(is_plan(web, 1, plan), True)
        self.assertIs(is_plan(web, 1, {**plan, standing[:6] + (begin,): ("give", 5)}), True)
        del plan[standing]
        self.assertIs(is_plan(web, 1, plan), False)


class LeastTagsTest(unittest.TestCase):
    """Point 6.1: least_tags."""

    def test_known_ones(self):
        self.assertEqual(least_tags(R2, 5), 3)
        self.assertEqual(least_tags(R2, 3), 3)
        self.assertIsNone(least_tags(R2, 2))
        self.assertIsNone(least_tags(R2, 1))
        self.assertEqual(least_tags(row_web(1, 0), 1), 1)
        self.assertEqual(least_tags(row_web(1, 4), 8), 5)
        self.assertIsNone(least_tags(row_web(1, 3), 3))
        self.assertEqual(least_tags(ring_web(3, 0), 8), 3)
        self.assertEqual(least_tags(sided_web((1, 2), 0), 8), 2)

    def test_against_settled(self):
        for web, _ in small_webs(73, 25, 200):
            if len(web.memories) < 4:
                told = [k for k in (1, 2, 3) if settled(web, k)[0] == "kept"]
                self.assertEqual(least_tags(web, 3), told[0] if told else None)

    def test_no_number(self):
        for most in NO_INTEGERS + [0, -1, 9, 200, 10 ** 39]:
            self.assertRaises(NoNumber, least_tags, R2, most)
            self.assertRaises(NoNumber, least_tags, row_web(60, 0), most)

    def test_too_many(self):
        for web in (row_web(60, 0), MORE):
            with self.assertRaises(TooMany) as caught:
                least_tags(web, 8)
            self.assertEqual(caught.exception.most, 3000)
        # Just the numbers up to the least one are looked at, and up to most.
        self.assertEqual(least_tags(Web((0,) * 7, ()), 8), 1)
        self.assertIsNone(least_tags(MORE, 1))
        self.assertIsNone(least_tags(JUST, 1))


if __name__ == "__main__":
    unittest.main()
