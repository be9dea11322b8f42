import unittest

from helpers import random_story, random_web, rng
from keeping import drawn, not_barred
from running import random_program
from staletags.chances import chances
from staletags.counts import least_enough, least_needed, needs
from staletags.dyes import dyeing, is_dyeing, least_dyed
from staletags.errors import TooMany
from staletags.foes import met, told_foe
from staletags.hands import Program
from staletags.heap import Heap
from staletags.journals import recovered
from staletags.looks import slip_of
from staletags.runs import found_always, plain
from staletags.settling import is_plan, least_tags, settled
from staletags.standings import barred, first_barred, is_past, standing_of
from staletags.ties import anew, clashes, given_anew
from staletags.told import told_keeper
from staletags.walks import is_table, walked
from staletags.weaves import least_open, least_slip, outcomes, whole_weavings
from staletags.webs import Web, is_odd_ring, odd_ring, tied, two_lots


class Names:
    """A web, and the same web under other names of its rooms."""

    def __init__(self, dice, web):
        self.one = web
        self.new = list(range(len(web.memories)))
        dice.shuffle(self.new)
        memories = [0] * len(self.new)
        for room, memory in enumerate(web.memories):
            memories[self.new[room]] = memory
        self.other = Web(tuple(memories), tuple(sorted(self.tie(tie) for tie in web.ties)))

    def tie(self, tie):
        return tuple(sorted(self.new[room] for room in tie))

    def lot(self, lot):
        return tuple(sorted(self.new[room] for room in lot))

    def by_rooms(self, parts):
        """A tuple with something for each room."""
        told = [None] * len(parts)
        for room, part in enumerate(parts):
            told[self.new[room]] = part
        return tuple(told)

    def deed(self, deed):
        """A deed or an ask."""
        return (deed[0], self.new[deed[1]]) + deed[2:]

    def row(self, row):
        return tuple(self.deed(deed) for deed in row)

    def slip(self, slip):
        if slip is None:
            return None
        rooms = 1 if slip[0] == "elder" else 2
        return slip[:1] + tuple(self.new[room] for room in slip[1:1 + rooms]) + slip[1 + rooms:]

    def block(self, block):
        """A block without takes, on rooms that have one tied room each, at most."""
        return tuple(self.statement(statement) for statement in block)

    def statement(self, statement):
        if statement[0] == "give" and statement[2] < len(self.new):
            return statement[:2] + (self.new[statement[2]],)
        return tuple(self.block(part) if isinstance(part, tuple) else part for part in statement)

    def result(self, result):
        """A result of tagged."""
        return result[:2] + (self.passed(result[2]), self.slip(result[3]))

    def passed(self, passed):
        return tuple((place, self.slip(slip)) for place, slip in passed)


def no_error(call, *args):
    try:
        return call(*args)
    except TooMany:
        return "too many"


class NamesTest(unittest.TestCase):
    """What the document tells of a web and of the same web under other names of its rooms."""

    def pairs(self, seed, many, rooms=8, memory=4):
        dice = rng(seed)
        for _ in range(many):
            yield dice, Names(dice, random_web(dice, rooms, memory))

    def test_ties_and_lots(self):
        for _, names in self.pairs(601, 100):
            one, other = names.one, names.other
            for room in range(len(one.memories)):
                self.assertEqual(tied(other, names.new[room]), names.lot(tied(one, room)))
            self.assertEqual(two_lots(one) is None, two_lots(other) is None)
            ring = odd_ring(one)
            if ring is not None:
                self.assertTrue(is_odd_ring(other, tuple(names.new[room] for room in ring)))
                self.assertTrue(is_odd_ring(one, ring))

    def test_counts(self):
        for _, names in self.pairs(607, 200):
            one, other = names.one, names.other
            self.assertEqual(names.by_rooms([needs(one, room) for room in range(len(one.memories))]),
                             tuple(needs(other, room) for room in range(len(one.memories))))
            self.assertEqual((least_needed(one), least_enough(one)), (least_needed(other), least_enough(other)))

    def test_standings(self):
        for dice, names in self.pairs(613, 100):
            one, other = names.one, names.other
            past = random_story(dice, one, 6, 30, dice.random() < 0.5).past
            renamed = names.row(past)
            self.assertTrue(is_past(other, 6, renamed))
            self.assertEqual(first_barred(one, past), first_barred(other, renamed))
            standing = standing_of(one, past)
            self.assertEqual(names.by_rooms(standing), standing_of(other, renamed))
            for room in range(len(one.memories)):
                self.assertEqual(barred(one, standing, room), barred(other, names.by_rooms(standing), names.new[room]))
            rooms = [deed[1] for deed in past if deed[0] == "give"]
            for giving, own in enumerate(rooms):
                for room in (own,) + tied(one, own):
                    slip = slip_of(one, past, giving, room)
                    self.assertEqual(names.slip(slip), slip_of(other, renamed, giving, names.new[room]))

    def test_small_webs(self):
        many = 0
        for _, names in self.pairs(617, 40, 4, 1):
            one, other = names.one, names.other
            told = no_error(least_tags, one, 4)
            self.assertEqual(told, no_error(least_tags, other, 4))
            for k in (1, 2, 3):
                settling = no_error(settled, one, k)
                self.assertEqual(settling == "too many", no_error(settled, other, k) == "too many")
                if settling == "too many":
                    continue
                many += 1
                self.assertEqual(settling[0], settled(other, k)[0])
                if settling[0] == "fallen":
                    plan = {names.by_rooms(standing): names.deed(ask) for standing, ask in settling[1].items()}
                    self.assertTrue(is_plan(other, k, plan))
                    self.assertFalse(is_table(other, k, settling[1]))
                else:
                    table = {(names.by_rooms(standing), names.new[room]): tag for (standing, room), tag in settling[1].items()}
                    self.assertTrue(is_table(other, k, table))
        self.assertGreater(many, 60)

    def test_walks(self):
        # A steady keeper that goes by what all names have alike: the room's own tags and what is barred.
        for _, names in self.pairs(619, 40, 4, 1):
            def steady(web, k, standing, room):
                tags = not_barred(web, k, standing, room)
                return tags[drawn(standing[room], tags) % len(tags)] if tags else None
            one, other = [no_error(walked, steady, web, 3) for web in (names.one, names.other)]
            self.assertEqual(one[0], other[0])
            if one[0] == "right":
                self.assertEqual(sorted(names.by_rooms(standing) for standing in one[1]), other[1])
            elif one[0] == "falls":
                self.assertEqual((len(one[1]), one[2]), (len(other[1]), other[2]))

    def test_dyeings(self):
        for _, names in self.pairs(631, 100, 7, 2):
            one, other = names.one, names.other
            told = no_error(least_dyed, one, 12)
            self.assertEqual(told, no_error(least_dyed, other, 12))
            if told not in (None, "too many"):
                self.assertTrue(is_dyeing(other, told, names.by_rooms(dyeing(one, told))))

    def test_keepers_and_foes(self):
        for dice, names in self.pairs(641, 40, 6, 2):
            one, other = names.one, names.other
            k = least_enough(one)
            keeper = told_keeper(one, k)

            def renamed(web, k, past, room):
                back = {new: old for old, new in enumerate(names.new)}
                return keeper(one, k, tuple((deed[0], back[deed[1]]) + deed[2:] for deed in past), back[room])

            def foe(past):
                held = standing_of(other, past)
                room = dice.randrange(len(held))
                return ("back" if held[room][0] else "give", room)
            self.assertEqual(met(renamed, foe, other, k, 60)[1], "kept")
            if least_needed(one) > 1:
                few = least_needed(one) - 1
                self.assertNotEqual(met(told_keeper(one, k), told_foe(other, few), other, few, 2000)[1], "kept")

    def test_clashes(self):
        for dice, names in self.pairs(643, 200, 9, 2):
            one, other = names.one, names.other
            standing = random_story(dice, Web(one.memories, ()), 3, 40, False).standing()
            renamed = names.by_rooms(standing)
            self.assertEqual(sorted(names.tie(tie) for tie in clashes(one, standing)), clashes(other, renamed))
            self.assertEqual(len(anew(one, standing)), len(anew(other, renamed)))
            deeds = given_anew(one, 40, standing)
            past = [deed[1] for deed in deeds if deed[0] == "give"]
            self.assertEqual(len(past), len(given_anew(other, 40, renamed)) // 2)

    def test_runs(self):
        words, slips = set(), 0
        for dice, names in self.paired(653, 200):
            one, other = names.one, names.other
            program = random_program(dice, one, 2, dice.randrange(2, 14), "abn")
            if "take" in str(program.block):
                program = Program(tuple(statement for statement in program.block if "take" not in str(statement)))
            renamed = Program(names.block(program.block))
            told = plain(program, one, 2, 99)
            self.assertEqual(told[:2] + (names.passed(told[2]),), plain(renamed, other, 2, 99))
            self.assertEqual(found_always(program, one, 2, 99), found_always(renamed, other, 2, 99))
            words.add(told[0])
            slips += told[2] != ()
            for way in ("free", "any"):
                drawn_one = no_error(chances, program, one, 2, way, 2, 20)
                if drawn_one != "too many":
                    drawn_one = {names.result(result): chance for result, chance in drawn_one.items()}
                self.assertEqual(drawn_one, no_error(chances, renamed, other, 2, way, 2, 20))
        self.assertGreater(len(words), 2)
        self.assertGreater(slips, 20)

    def test_weavings(self):
        for dice, names in self.paired(659, 60):
            steps = [("give", "a", dice.randrange(4)), ("give", "bb", dice.randrange(4)), ("back", "bb"), ("read", "n", "bb", 1, 0), ("back", "a")]
            blocks = [tuple(dice.sample(steps, dice.randrange(2, 5))) for _ in range(2)]
            hands = tuple(Program(block) for block in blocks)
            others = tuple(Program(names.block(block)) for block in blocks)
            for call in (whole_weavings, outcomes, least_slip, least_open):
                self.assertEqual(call(hands, names.one, 1), call(others, names.other, 1))

    def paired(self, seed, many):
        dice = rng(seed)
        for _ in range(many):
            yield dice, Names(dice, Web(tuple(dice.randrange(2) for _ in range(4)), dice.choice((((0, 1),), ((0, 1), (2, 3))))))

    def test_heaps_and_journals(self):
        for dice, names in self.pairs(647, 40, 6, 2):
            one, other = names.one, names.other
            story = random_story(dice, one, 6, 30, True)
            heap, _ = recovered(one, 6, len, 1, journal(story.past))
            renamed, _ = recovered(other, 6, len, 1, journal(names.row(story.past)))
            self.assertEqual(names.row(heap.past()), renamed.past())
            for giving in range(len(heap.handles())):
                own = heap.handles()[giving][0]
                for room in (own,) + tied(one, own):
                    self.assertEqual(heap.read(giving, room, 0), renamed.read(giving, names.new[room], 0))
            self.assertEqual([(look, names.slip(slip)) for look, slip in heap.slips()], renamed.slips())
            self.assertIsInstance(renamed, Heap)


def journal(past):
    return "".join(" ".join(str(part) for part in deed) + "\n" for deed in past)


if __name__ == "__main__":
    unittest.main()
