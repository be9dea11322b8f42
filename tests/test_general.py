import copy
import unittest

from heaps import state, turned, zero
from helpers import nested, random_story, random_web, rng
from keeping import drawing, least, least_steady
from running import random_program
from staletags import kinds
from staletags.chances import chances, let_chance
from staletags.counts import least_enough, least_needed, most_givings, needs, ring_dyed, sided_number
from staletags.dyes import blind_row, blindly, dyeing, in_turn, is_dyeing, least_dyed
from staletags.errors import (
    BadFoe, BadProgram, BadText, BadWeb, NoDeed, NoGiving, NoHands, NoNear, NoNumber, NoPast, NoRoom, NoRow, NoSlip, NoText,
    NoWay, NoWeaving, NotKept,
)
from staletags.foes import met, sided_foe, told_foe
from staletags.hands import Program
from staletags.heap import Heap
from staletags.journals import recovered
from staletags.keepers import by_table, is_row, led, steadily
from staletags.looks import slip_of
from staletags.passing import passing
from staletags.runs import found_always, plain, tagged
from staletags.settling import is_plan, least_tags, settled
from staletags.standings import after, barred, begun, first_barred, is_past, standing_of
from staletags.texts import program_text, read_program, read_web, web_text
from staletags.ties import anew, clashes, given_anew
from staletags.told import sided_keeper, told_keeper
from staletags.walks import is_table, walked
from staletags.weaves import least_open, least_slip, outcomes, passing_weaving, whole_weavings, woven, woven_tagged
from staletags.webs import Web, is_odd_ring, odd_ring, ring_web, row_web, tied, two_lots

R2 = row_web(2, 1)
R3 = row_web(3, 1)
BARE = row_web(2, 0)

# A program with statements of all kinds, with an open slip that is let by some.
HAND = Program((
    ("num", "n", 3), ("give", "a", 0), ("write", "a", 0, 0, "n"), ("back", "a"), ("take", "bb"), ("again", 2, (("print", "n"),)),
    ("if", "n", (("read", "n", "a", 0, 0), ("sum", "n", "n", "n")), (("copy", "a", "bb"),)), ("print", "n"),
))


class KindsTest(unittest.TestCase):
    """Point 0.2: integers, numbers, flags and lots."""

    def test_integers_and_numbers(self):
        for thing in (0, 1, 10 ** 39):
            self.assertIs(kinds.is_integer(thing), True)
            self.assertIs(kinds.is_number(thing), True)
        self.assertIs(kinds.is_integer(-1), True)
        self.assertIs(kinds.is_number(-1), False)
        for thing in (True, False, None, "1", (1,), [1]):
            self.assertIs(kinds.is_integer(thing), False)
            self.assertIs(kinds.is_number(thing), False)

    def test_flags_are_flags(self):
        judged = [
            is_odd_ring(R3, ()), is_odd_ring(ring_web(3, 0), (0, 1, 2)), is_past(R3, 3, ()), is_past(R3, 3, 0),
            is_row(R3, ()), is_row(R3, 0), is_table(R2, 3, settled(R2, 3)[1]), is_table(R2, 3, {}), is_table(R2, 3, 0),
            is_plan(R2, 2, settled(R2, 2)[1]), is_plan(R2, 2, {}), is_plan(R2, 2, 0), is_dyeing(R2, 4, dyeing(R2, 4)),
            is_dyeing(R2, 4, ()), is_dyeing(R2, 4, 0),
        ]
        self.assertEqual({type(flag) for flag in judged}, {bool})

    def test_lots_ascend(self):
        dice = rng(53)
        for _ in range(50):
            web = random_web(dice)
            standing = standing_of(web, random_story(dice, web, 9, 20, False).past)
            lots = [tied(web, room) for room in range(len(web.memories))]
            lots.extend(barred(web, standing, room) for room in range(len(web.memories)))
            lots.extend(two_lots(web) or ())
            for lot in lots:
                self.assertIsInstance(lot, tuple)
                self.assertEqual(list(lot), sorted(set(lot)))


class JudgedThingsTest(unittest.TestCase):
    """Point 0.3: things that are large, or nested deep, raise nothing but what is named."""

    wraps = [lambda x: (x,), lambda x: [x], lambda x: {0: x}, lambda x: (0, x, 0), lambda x: ("give", x, 0)]

    def test_nested_deep(self):
        for wrap in self.wraps:
            for depth in (1, 2, 3, 39, 40):
                thing = nested(depth, wrap, ())
                self.assertRaises(BadWeb, Web, (thing,), ())
                self.assertRaises(BadWeb, Web, (0, 0), (thing,))
                self.assertRaises(BadWeb, Web, (0, 0), ((0, thing),))
                self.assertRaises(NoDeed, after, R3, begun(R3), ("give", 0, thing))
                self.assertRaises(NoRow, led, None, R3, 3, [thing])
                self.assertIs(is_past(R3, 3, (thing,)), False)
                self.assertIs(is_odd_ring(R3, (0, 1, thing)), False)
                self.assertIs(is_dyeing(R2, 4, thing), False)
                self.assertIs(is_dyeing(R2, 4, (thing, (0, 1))), False)
                self.assertIs(is_table(R2, 3, thing), False)
                self.assertIs(is_table(R2, 3, {(begun(R2), 0): thing}), False)
                self.assertIs(is_plan(R2, 2, thing), False)
                self.assertIs(is_plan(R2, 2, {begun(R2): thing}), False)
                self.assertRaises(NoSlip, passing, None, R3, 4, thing)
                self.assertRaises(NoSlip, passing, None, R3, 4, ("elder", 0, thing))
                self.assertRaises(NoPast, slip_of, R3, thing, 0, 0)
                self.assertRaises(BadFoe, met, None, lambda past: thing, R3, 4, 1)
                self.assertEqual(led(lambda web, k, past, room: thing, R3, 4, [("give", 0)]), ((), "odd"))

    def test_nested_deep_in_heaps(self):
        for wrap in self.wraps:
            for depth in (1, 2, 39, 40):
                thing = nested(depth, wrap, ())
                heap = Heap(R2, 3, lambda web, k, past, room: thing if past else 0, 1)
                heap.give(0)
                self.assertRaises(NoRoom, heap.give, thing)
                self.assertRaises(NoRoom, heap.cells, thing)
                self.assertRaises(NotKept, heap.take)
                self.assertRaises(NoGiving, heap.back, thing)
                self.assertRaises(NoGiving, heap.read, thing, 0, 0)
                self.assertRaises(NoNear, heap.read, 0, thing, 0)
                self.assertRaises(NoNumber, heap.read, 0, 0, thing)
                self.assertRaises(NoNumber, heap.write, 0, 0, 0, thing)
                self.assertRaises(NoNumber, Heap, R2, 3, least, thing)
                self.assertRaises(NoText, recovered, R2, 3, least, 1, thing)
                self.assertEqual((heap.past(), heap.looks()), ((("give", 0, 0),), 0))

    def test_nested_deep_in_programs(self):
        for wrap in self.wraps:
            for depth in (1, 2, 39, 40):
                thing = nested(depth, wrap, None)
                for statement in (thing, ("print", thing), ("num", "a", thing), ("again", thing, ()), ("give", "a", thing), (thing, "a")):
                    self.assertRaises(BadProgram, Program, (statement,))
                    self.assertRaises(BadProgram, Program, (("again", 2, (statement,)),))
                self.assertRaises(BadProgram, Program, (("if", "a", (), thing),))
                self.assertRaises(BadProgram, Program, thing)
                self.assertRaises(BadText, read_web, thing)
                self.assertRaises(BadText, read_program, thing)
                self.assertRaises(NoHands, woven, thing, R2, 1, ())
                self.assertRaises(NoHands, least_open, (HAND, thing), R2, 1)
                self.assertRaises(NoWeaving, woven, (HAND,), R2, 1, (0, thing))
                self.assertRaises(NoNumber, plain, HAND, R2, 1, thing)
                self.assertRaises(NoWay, chances, HAND, R2, 2, thing, 1, 1)
                self.assertEqual(tagged(HAND, R2, 2, lambda web, k, past, room: thing, 1, 9)[0], "odd")

    def test_programs_nested_deep(self):
        for many in range(1, 41):
            block = nested(many - 1, lambda inner: (("again", 1, inner),), (("print", "a"),))
            if many <= 6:
                self.assertEqual(plain(Program(block), R2, 1, 99), ("over", (0,), ()))
            else:
                self.assertRaises(BadProgram, Program, block)

    def test_nested_deep_as_keys(self):
        for wrap in self.wraps[:1] + self.wraps[3:]:
            for depth in (1, 2, 3, 39):
                thing = nested(depth, wrap, ())
                for key in (thing, (thing, 0), ((thing, thing), 0), (((False, thing), (False, ())), 0)):
                    self.assertIs(is_table(R2, 3, {key: 0}), False)
                    self.assertIs(is_plan(R2, 2, {key: ("give", 0)}), False)
                self.assertIs(is_plan(R2, 2, {((False, thing), (False, ())): ("give", 0)}), False)

    def test_large(self):
        many = 19999
        for thing in ((0,) * many, tuple(range(many)), ((),) * many, ("give",) * many):
            self.assertRaises(BadWeb, Web, thing, ())
            self.assertRaises(BadWeb, Web, (0, 0), thing)
            self.assertRaises(NoDeed, after, R3, begun(R3), thing)
            self.assertIs(is_past(R3, 3, thing), False)
            self.assertIs(is_row(R3, list(thing)), False)
            self.assertIs(is_odd_ring(R3, thing), False)
            self.assertIs(is_dyeing(R3, 4, thing), False)
            self.assertIs(is_table(R2, 3, {thing: 0}), False)
            self.assertIs(is_plan(R2, 2, {thing: ("give", 0)}), False)
            self.assertRaises(NoSlip, passing, None, R3, 4, thing)
            self.assertRaises(NoPast, slip_of, R3, thing, 0, 0)
            self.assertRaises(BadFoe, met, None, lambda past: thing, R3, 4, 1)
            self.assertRaises(BadProgram, Program, thing)
            self.assertRaises(BadProgram, Program, (thing,))
            self.assertRaises(BadProgram, Program, (("again", 2, thing),))
            self.assertRaises(NoHands, woven, thing, R2, 1, ())
            self.assertRaises(NoWeaving, woven, (HAND,), R2, 1, thing)
            self.assertRaises(NoWay, chances, HAND, R2, 2, thing, 1, 1)
        self.assertIs(is_odd_ring(ring_web(3, 0), (0, 1, 2) * 6665), False)

    def test_integers_of_forty_digits(self):
        big = 10 ** 40 - 1
        for number in (big, -big):
            self.assertRaises(BadWeb, Web, (number,), ())
            self.assertIs(is_past(R3, 3, (("give", 0, number),)), False)
            self.assertIs(is_odd_ring(R3, (0, 1, number)), False)
            self.assertIs(is_dyeing(R2, 200, ((0, number), (2, 3))), False)
            self.assertIs(is_table(R2, 3, {(begun(R2), number): 0}), False)
            self.assertIs(is_table(R2, 3, {(begun(R2), 0): number}), False)
            self.assertIs(is_plan(R2, 2, {begun(R2): ("give", number)}), False)
            self.assertRaises(NoSlip, passing, None, R3, 4, ("elder", number, 1))
        self.assertEqual(after(R3, begun(R3), ("give", 0, big))[0], (True, (big,)))


class NothingChangesTest(unittest.TestCase):
    """Points 0.3 and 0.4: arguments stay as they were, results are new, equal calls give equal answers."""

    def calls(self):
        past = (("give", 0, 0), ("give", 1, 1), ("back", 0))
        standing = standing_of(R3, past)
        table, plan = settled(R2, 3)[1], settled(R2, 2)[1]
        foe = told_foe(R3, 3)
        keeper = steadily(by_table({(begun(R3), 0): 1, (begun(R3), 1): 2}))
        return [
            (tied, [R3, 1]), (two_lots, [R3]), (odd_ring, [ring_web(5, 0)]), (begun, [R3]),
            (is_odd_ring, [R3, [0, [1], 2]]), (after, [R3, standing, ("back", 1)]), (standing_of, [R3, past]),
            (after, [R3, standing, ["back", 1]]), (barred, [R3, standing, 0]), (barred, [R3, standing, [0]]),
            (is_past, [R3, 3, past]), (is_past, [R3, 3, [[0], {1: 2}]]), (first_barred, [R3, past]),
            (is_row, [R3, [("give", 0), ["give", 1]]]), (led, [keeper, R3, 3, [("give", 0), ("back", 0)]]),
            (led, [keeper, R3, 3, [("give", 0), ["back", 0]]]), (led, [keeper, R3, 3, [("give", 1), ("give", 0)]]),
            (walked, [least_steady, R2, 3]), (walked, [least_steady, R3, 1]), (is_table, [R2, 3, table]),
            (is_table, [R2, 3, {**table, 0: [1]}]), (settled, [R2, 3]), (settled, [R2, 2]), (is_plan, [R2, 2, plan]),
            (is_plan, [R2, 2, {**plan, 0: [1]}]), (least_tags, [R2, 4]), (least_tags, [row_web(60, 0), 4]),
            (needs, [R3, 1]), (least_needed, [R3]), (least_enough, [R3]), (most_givings, [R3]), (ring_dyed, [2, 1]),
            (sided_number, [(2, 3), 1]), (told_keeper(R3, 4), [R3, 4, past, 0]), (told_keeper, [R3, 3]),
            (sided_keeper((1, 1, 1), 1, 4), [R3, 4, past, 0]), (met, [least, foe, R3, 3, 9]), (foe, [past]),
            (sided_foe((1, 2), 1, 3), [past]), (blindly(in_turn(((0, 1),) * 3)), [R3, 4, past, 0]), (dyeing, [R3, 4]),
            (is_dyeing, [R2, 4, ([0, 1], (2, 3))]), (least_dyed, [R3, 9]),
            (blind_row, [in_turn(((0, 1),) * 3), R3, 4, 2]), (passing, [least_steady, R2, 3, ("near", 0, 1, 0)]),
            (passing, [least_steady, R2, 3, ["near", 0, 1, 0]]), (slip_of, [R3, past, 0, 1]), (slip_of, [R3, [past], 0, 1]),
        ] + self.hand_calls()

    def hand_calls(self):
        clashing = ((True, (1,)), (True, (1,)), (True, (1,)))
        hands = (HAND, Program((("take", "c"), ("back", "bb"))))
        block = (("print", "a"), ("again", 2, (("take", "a"), ["print", "a"])))
        return [
            (self.led_heap, [R2, 2, [(0, 0, 4), (1, 1, -4)]]), (self.recovered_state, [R2, 3, "give 0 0\nput 0 0 7\nback 1\n"]),
            (recovered, [R2, 3, least, 1, ["give 0 0\n"]]), (Program, [block[:1]]), (Program, [block]), (Program, [list(block)]),
            (plain, [HAND, R2, 1, 99]), (plain, [HAND, R2, 1, [9]]), (tagged, [HAND, R2, 3, least, 1, 99]), (tagged, [HAND, BARE, 3, zero, 1, 99]),
            (found_always, [HAND, R2, 1, 99]), (clashes, [row_web(3, 0), clashing]), (anew, [row_web(3, 0), clashing]),
            (given_anew, [row_web(3, 0), 3, clashing]), (given_anew, [row_web(3, 0), 2, clashing]), (web_text, [R3]), (program_text, [HAND]),
            (read_web, [web_text(R3)]), (read_web, ["rooms 1\ntie 0 1"]), (read_web, [[web_text(R3)]]), (read_program, [program_text(HAND)]),
            (read_program, ["again 2 do"]), (woven, [hands, R2, 1, (0, 0, 1, 0)]), (woven, [hands, R2, 1, [0, 0]]), (woven, [list(hands), R2, 1, ()]),
            (woven_tagged, [hands, R2, 3, least, 1, (0, 0, 1, 1)]), (whole_weavings, [hands, R2, 1]), (outcomes, [hands, R2, 1]),
            (least_slip, [hands, R2, 1]), (least_open, [hands, R2, 1]), (passing_weaving, [hands, BARE, 1, least_steady, 1]),
            (chances, [HAND, BARE, 3, "any", 1, 99]), (chances, [HAND, BARE, 3, ["any"], 1, 99]), (let_chance, [HAND, BARE, 3, "free", 1, 99]),
        ]

    def led_heap(self, web, size, writes):
        heap = Heap(web, 3, least, size)
        heap.give(0)
        return state(heap), [heap.write(0, *write) for write in writes], state(heap.copy())

    def recovered_state(self, web, k, text):
        heap, many = recovered(web, k, least, 1, text)
        return state(heap), many

    def answer(self, call, args):
        try:
            return call(*args)
        except ValueError as error:
            return type(error), vars(error)

    def test_arguments_stay(self):
        for call, args in self.calls():
            ahead = copy.deepcopy([arg for arg in args if not callable(arg)])
            self.answer(call, args)
            self.assertEqual([arg for arg in args if not callable(arg)], ahead)

    def test_equal_answers(self):
        for call, args in self.calls():
            self.assertEqual(self.answer(call, args), self.answer(call, args))
        for (call, args), (_, others) in zip(self.calls(), self.calls()):
            self.assertEqual(self.answer(call, args), self.answer(call, others))

    def test_lists_and_dicts_are_new(self):
        for call, args in (
            (clashes, [row_web(2, 0), ((True, (1,)), (True, (1,)))]), (outcomes, [(HAND,), R2, 1]), (chances, [HAND, R2, 3, "any", 1, 9]),
            (turned(2).handles, []), (self.slips_of_heap().slips, []),
        ):
            one, other = call(*args), call(*args)
            self.assertIsNot(one, other)
            one.clear()
            self.assertNotEqual(one, other)
            self.assertEqual(call(*args), other)
        for call, args in ((walked, [least_steady, R2, 3]), (settled, [R2, 3]), (settled, [R2, 2])):
            one, other = call(*args), call(*args)
            self.assertIsNot(one[1], other[1])
            one[1].clear()
            self.assertNotEqual(one, other)
            self.assertEqual(call(*args), other)

    def slips_of_heap(self):
        heap = turned(2)
        heap.read(0, 0, 0)
        return heap

    def test_objects_keep_what_they_were_made_of(self):
        rows = [("print", "a")]
        program = Program(tuple(rows))
        rows.append(("print", "b"))
        self.assertEqual(program.block, (("print", "a"),))
        plain(program, R2, 1, 9)
        woven((program, program), R2, 1, (0, 1))
        self.assertEqual(program.block, (("print", "a"),))
        heap = Heap(R2, 3, least, 1)
        other = heap.copy()
        other.take()
        self.assertEqual((heap.past(), heap.handles()), ((), []))

    def test_webs_stay(self):
        web = Web((1, 0, 2), ((0, 1), (1, 2)))
        for call in (two_lots, odd_ring, begun):
            call(web)
        for call in (least_needed, least_enough, most_givings):
            call(web)
        for call in (settled, is_table, is_plan, dyeing, is_dyeing):
            call(*[web, 3, {}][:2 + (call in (is_table, is_plan, is_dyeing))])
        led(lambda web, k, past, room: 0, web, 1, (("give", 0), ("give", 1)))
        self.assertEqual((web.memories, web.ties), ((1, 0, 2), ((0, 1), (1, 2))))
        self.assertTrue(web == Web((1, 0, 2), ((0, 1), (1, 2))))

    def test_what_was_returned_may_be_passed_on(self):
        dice = rng(59)
        for _ in range(30):
            web = random_web(dice)
            row = [("give", room) for room in range(len(web.memories))] * 2
            past, _ = led(lambda web, k, past, room: room, web, 60, row[:len(web.memories)])
            self.assertIs(is_past(web, 60, past), True)
            self.assertEqual(standing_of(web, past), tuple((True, (room,)) for room in range(len(web.memories))))

    def test_long_pasts_may_be_passed_on(self):
        web = row_web(1, 1)
        past, word = met(least, lambda past: ("back" if len(past) % 2 else "give", 0), web, 2, 2000)
        self.assertEqual((word, len(past)), ("kept", 3999))
        self.assertIs(is_past(web, 2, past), True)
        self.assertEqual(slip_of(web, past, 0, 0), ("elder", 0, 1999))
        row, word = walked(least_steady, R3, 3)[1:]
        self.assertEqual(led(steadily(least_steady), R3, 3, row)[1], word)

    def test_large_numbers_may_be_passed_on(self):
        # The longest weaving that can be passed brings numbers that Python does not write at once.
        double = (("sum", "n", "n", "n"),) * 2
        hand = Program((("num", "n", -10 ** 9), ("again", 100, (("again", 99, double),)), ("print", "n")))
        words, said, _ = woven((hand,), R2, 1, (0,) * (1 + 1 + 100 * (1 + 198) + 1))
        number = -10 ** 9 * 2 ** 19800
        self.assertEqual((words, said), (("over",), ((number,),)))
        heap = Heap(R2, 3, least, 1)
        heap.take()
        self.assertEqual(heap.write(0, 0, 0, number), ("let", number))
        self.assertEqual(heap.cells(0), (number,))
        word = heap.journal().split("\n")[1].split(" ")[3]
        self.assertEqual(len(word), 1 + 9 + 5961)
        self.assertEqual(self.read_digits(word), number)
        self.assertEqual(recovered(R2, 3, least, 1, heap.journal())[1], len("give 0 0\n"))

    def read_digits(self, word):
        number = 0
        for sign in word[1:]:
            number = number * 10 + int(sign)
        return -number

    def test_texts_may_be_passed_on(self):
        dice = rng(61)
        for _ in range(30):
            program = random_program(dice, R3, 1, 20)
            self.assertEqual(read_program(program_text(program)), program)
        heap = Heap(row_web(1, 1), 2, drawing(1), 1)
        for number in range(3000):
            heap.back(heap.give(0))
        self.assertGreater(len(heap.journal()), 20000)
        other, many = recovered(row_web(1, 1), 2, drawing(1), 1, heap.journal())
        self.assertEqual((many, other.past()), (len(heap.journal()), heap.past()))


if __name__ == "__main__":
    unittest.main()
