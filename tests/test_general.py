import copy
import unittest

from helpers import nested, random_story, random_web, rng
from keeping import least, least_steady
from staletags import kinds
from staletags.counts import least_enough, least_needed, most_givings, needs, ring_dyed, sided_number
from staletags.dyes import blind_row, blindly, dyeing, in_turn, is_dyeing, least_dyed
from staletags.errors import BadFoe, BadWeb, NoDeed, NoPast, NoRow, NoSlip
from staletags.foes import met, sided_foe, told_foe
from staletags.keepers import by_table, is_row, led, steadily
from staletags.looks import slip_of
from staletags.passing import passing
from staletags.settling import is_plan, least_tags, settled
from staletags.standings import after, barred, begun, first_barred, is_past, standing_of
from staletags.told import sided_keeper, told_keeper
from staletags.walks import is_table, walked
from staletags.webs import Web, is_odd_ring, odd_ring, ring_web, row_web, tied, two_lots

R2 = row_web(2, 1)
R3 = row_web(3, 1)


class KindsTest(unittest.TestCase):
    """Point 0.2: integers, numbers, flags and lots."""

    def test_integers_and_numbers(self):
        for thing in (0, 1, 10 ** 39):
            self.assertIs(kinds.is_integer(thing), True)
            self.assertIs(kinds.is_number(thing), True)
        self.assertIs(kinds.is_integer(-1), True)
        self.assertIs(kinds.is_number(-1), False)
        for thing in (True, False, None, "1", (1,), [1]):
            self.assertIs(kinds.is_integer(thing), False)
            self.assertIs(kinds.is_number(thing), False)

    def test_flags_are_flags(self):
        judged = [
            is_odd_ring(R3, ()), is_odd_ring(ring_web(3, 0), (0, 1, 2)), is_past(R3, 3, ()), is_past(R3, 3, 0),
            is_row(R3, ()), is_row(R3, 0), is_table(R2, 3, settled(R2, 3)[1]), is_table(R2, 3, {}), is_table(R2, 3, 0),
            is_plan(R2, 2, settled(R2, 2)[1]), is_plan(R2, 2, {}), is_plan(R2, 2, 0), is_dyeing(R2, 4, dyeing(R2, 4)),
            is_dyeing(R2, 4, ()), is_dyeing(R2, 4, 0),
        ]
        self.assertEqual({type(flag) for flag in judged}, {bool})

    def test_lots_ascend(self):
        dice = rng(53)
        for _ in range(50):
            web = random_web(dice)
            standing = standing_of(web, random_story(dice, web, 9, 20, False).past)
            lots = [tied(web, room) for room in range(len(web.memories))]
            lots.extend(barred(web, standing, room) for room in range(len(web.memories)))
            lots.extend(two_lots(web) or ())
            for lot in lots:
                self.assertIsInstance(lot, tuple)
                self.assertEqual(list(lot), sorted(set(lot)))


class JudgedThingsTest(unittest.TestCase):
    """Point 0.3: things that are large, or nested deep, raise nothing but what is named."""

    wraps = [lambda x: (x,), lambda x: [x], lambda x: {0: x}, lambda x: (0, x, 0), lambda x: ("give", x, 0)]

    def test_nested_deep(self):
        for wrap in self.wraps:
            for depth in (1, 2, 3, 39, 40):
                thing = nested(depth, wrap, ())
                self.assertRaises(BadWeb, Web, (thing,), ())
                self.assertRaises(BadWeb, Web, (0, 0), (thing,))
                self.assertRaises(BadWeb, Web, (0, 0), ((0, thing),))
                self.assertRaises(NoDeed, after, R3, begun(R3), ("give", 0, thing))
                self.assertRaises(NoRow, led, None, R3, 3, [thing])
                self.assertIs(is_past(R3, 3, (thing,)), False)
                self.assertIs(is_odd_ring(R3, (0, 1, thing)), False)
                self.assertIs(is_dyeing(R2, 4, thing), False)
                self.assertIs(is_dyeing(R2, 4, (thing, (0, 1))), False)
                self.assertIs(is_table(R2, 3, thing), False)
                self.assertIs(is_table(R2, 3, {(begun(R2), 0): thing}), False)
                self.assertIs(is_plan(R2, 2, thing), False)
                self.assertIs(is_plan(R2, 2, {begun(R2): thing}), False)
                self.assertRaises(NoSlip, passing, None, R3, 4, thing)
                self.assertRaises(NoSlip, passing, None, R3, 4, ("elder", 0, thing))
                self.assertRaises(NoPast, slip_of, R3, thing, 0, 0)
                self.assertRaises(BadFoe, met, None, lambda past: thing, R3, 4, 1)
                self.assertEqual(led(lambda web, k, past, room: thing, R3, 4, [("give", 0)]), ((), "odd"))

    def test_nested_deep_as_keys(self):
        for wrap in self.wraps[:1] + self.wraps[3:]:
            for depth in (1, 2, 3, 39):
                thing = nested(depth, wrap, ())
                for key in (thing, (thing, 0), ((thing, thing), 0), (((False, thing), (False, ())), 0)):
                    self.assertIs(is_table(R2, 3, {key: 0}), False)
                    self.assertIs(is_plan(R2, 2, {key: ("give", 0)}), False)
                self.assertIs(is_plan(R2, 2, {((False, thing), (False, ())): ("give", 0)}), False)

    def test_large(self):
        many = 19999
        for thing in ((0,) * many, tuple(range(many)), ((),) * many, ("give",) * many):
            self.assertRaises(BadWeb, Web, thing, ())
            self.assertRaises(BadWeb, Web, (0, 0), thing)
            self.assertRaises(NoDeed, after, R3, begun(R3), thing)
            self.assertIs(is_past(R3, 3, thing), False)
            self.assertIs(is_row(R3, list(thing)), False)
            self.assertIs(is_odd_ring(R3, thing), False)
            self.assertIs(is_dyeing(R3, 4, thing), False)
            self.assertIs(is_table(R2, 3, {thing: 0}), False)
            self.assertIs(is_plan(R2, 2, {thing: ("give", 0)}), False)
            self.assertRaises(NoSlip, passing, None, R3, 4, thing)
            self.assertRaises(NoPast, slip_of, R3, thing, 0, 0)
            self.assertRaises(BadFoe, met, None, lambda past: thing, R3, 4, 1)
        self.assertIs(is_odd_ring(ring_web(3, 0), (0, 1, 2) * 6665), False)

    def test_integers_of_forty_digits(self):
        big = 10 ** 40 - 1
        for number in (big, -big):
            self.assertRaises(BadWeb, Web, (number,), ())
            self.assertIs(is_past(R3, 3, (("give", 0, number),)), False)
            self.assertIs(is_odd_ring(R3, (0, 1, number)), False)
            self.assertIs(is_dyeing(R2, 200, ((0, number), (2, 3))), False)
            self.assertIs(is_table(R2, 3, {(begun(R2), number): 0}), False)
            self.assertIs(is_table(R2, 3, {(begun(R2), 0): number}), False)
            self.assertIs(is_plan(R2, 2, {begun(R2): ("give", number)}), False)
            self.assertRaises(NoSlip, passing, None, R3, 4, ("elder", number, 1))
        self.assertEqual(after(R3, begun(R3), ("give", 0, big))[0], (True, (big,)))


class NothingChangesTest(unittest.TestCase):
    """Points 0.3 and 0.4: arguments stay as they were, results are new, equal calls give equal answers."""

    def calls(self):
        past = (("give", 0, 0), ("give", 1, 1), ("back", 0))
        standing = standing_of(R3, past)
        table, plan = settled(R2, 3)[1], settled(R2, 2)[1]
        foe = told_foe(R3, 3)
        keeper = steadily(by_table({(begun(R3), 0): 1, (begun(R3), 1): 2}))
        return [
            (tied, [R3, 1]), (two_lots, [R3]), (odd_ring, [ring_web(5, 0)]), (begun, [R3]),
            (is_odd_ring, [R3, [0, [1], 2]]), (after, [R3, standing, ("back", 1)]), (standing_of, [R3, past]),
            (after, [R3, standing, ["back", 1]]), (barred, [R3, standing, 0]), (barred, [R3, standing, [0]]),
            (is_past, [R3, 3, past]), (is_past, [R3, 3, [[0], {1: 2}]]), (first_barred, [R3, past]),
            (is_row, [R3, [("give", 0), ["give", 1]]]), (led, [keeper, R3, 3, [("give", 0), ("back", 0)]]),
            (led, [keeper, R3, 3, [("give", 0), ["back", 0]]]), (led, [keeper, R3, 3, [("give", 1), ("give", 0)]]),
            (walked, [least_steady, R2, 3]), (walked, [least_steady, R3, 1]), (is_table, [R2, 3, table]),
            (is_table, [R2, 3, {**table, 0: [1]}]), (settled, [R2, 3]), (settled, [R2, 2]), (is_plan, [R2, 2, plan]),
            (is_plan, [R2, 2, {**plan, 0: [1]}]), (least_tags, [R2, 4]), (least_tags, [row_web(60, 0), 4]),
            (needs, [R3, 1]), (least_needed, [R3]), (least_enough, [R3]), (most_givings, [R3]), (ring_dyed, [2, 1]),
            (sided_number, [(2, 3), 1]), (told_keeper(R3, 4), [R3, 4, past, 0]), (told_keeper, [R3, 3]),
            (sided_keeper((1, 1, 1), 1, 4), [R3, 4, past, 0]), (met, [least, foe, R3, 3, 9]), (foe, [past]),
            (sided_foe((1, 2), 1, 3), [past]), (blindly(in_turn(((0, 1),) * 3)), [R3, 4, past, 0]), (dyeing, [R3, 4]),
            (is_dyeing, [R2, 4, ([0, 1], (2, 3))]), (least_dyed, [R3, 9]),
            (blind_row, [in_turn(((0, 1),) * 3), R3, 4, 2]), (passing, [least_steady, R2, 3, ("near", 0, 1, 0)]),
            (passing, [least_steady, R2, 3, ["near", 0, 1, 0]]), (slip_of, [R3, past, 0, 1]), (slip_of, [R3, [past], 0, 1]),
        ]

    def answer(self, call, args):
        try:
            return call(*args)
        except ValueError as error:
            return type(error), vars(error)

    def test_arguments_stay(self):
        for call, args in self.calls():
            ahead = copy.deepcopy([arg for arg in args if not callable(arg)])
            self.answer(call, args)
            self.assertEqual([arg for arg in args if not callable(arg)], ahead)

    def test_equal_answers(self):
        for call, args in self.calls():
            self.assertEqual(self.answer(call, args), self.answer(call, args))
        for (call, args), (_, others) in zip(self.calls(), self.calls()):
            self.assertEqual(self.answer(call, args), self.answer(call, others))

    def test_lists_and_dicts_are_new(self):
        for call, args in ((walked, [least_steady, R2, 3]), (settled, [R2, 3]), (settled, [R2, 2])):
            one, other = call(*args), call(*args)
            self.assertIsNot(one[1], other[1])
            one[1].clear()
            self.assertNotEqual(one, other)
            self.assertEqual(call(*args), other)

    def test_webs_stay(self):
        web = Web((1, 0, 2), ((0, 1), (1, 2)))
        for call in (two_lots, odd_ring, begun):
            call(web)
        for call in (least_needed, least_enough, most_givings):
            call(web)
        for call in (settled, is_table, is_plan, dyeing, is_dyeing):
            call(*[web, 3, {}][:2 + (call in (is_table, is_plan, is_dyeing))])
        led(lambda web, k, past, room: 0, web, 1, (("give", 0), ("give", 1)))
        self.assertEqual((web.memories, web.ties), ((1, 0, 2), ((0, 1), (1, 2))))
        self.assertTrue(web == Web((1, 0, 2), ((0, 1), (1, 2))))

    def test_what_was_returned_may_be_passed_on(self):
        dice = rng(59)
        for _ in range(30):
            web = random_web(dice)
            row = [("give", room) for room in range(len(web.memories))] * 2
            past, _ = led(lambda web, k, past, room: room, web, 60, row[:len(web.memories)])
            self.assertIs(is_past(web, 60, past), True)
            self.assertEqual(standing_of(web, past), tuple((True, (room,)) for room in range(len(web.memories))))

    def test_long_pasts_may_be_passed_on(self):
        web = row_web(1, 1)
        past, word = met(least, lambda past: ("back" if len(past) % 2 else "give", 0), web, 2, 2000)
        self.assertEqual((word, len(past)), ("kept", 3999))
        self.assertIs(is_past(web, 2, past), True)
        self.assertEqual(slip_of(web, past, 0, 0), ("elder", 0, 1999))
        row, word = walked(least_steady, R3, 3)[1:]
        self.assertEqual(led(steadily(least_steady), R3, 3, row)[1], word)


if __name__ == "__main__":
    unittest.main()
