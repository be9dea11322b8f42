"""Hands that do their programs statement by statement on the same rooms."""

from staletags.looks import clause_of
from staletags.webs import is_room


class Hand:
    """A program that is being done."""

    def __init__(self, block):
        # The blocks that are not done, the outermost first: each with the number of its next statement and how many
        # rounds of it are left, this one counted.
        self.frames = with_block((), block, 1)
        self.own = {}
        self.said = ()
        self.word = "on" if self.frames else "over"

    def twin(self):
        """An equal hand that goes on apart."""
        other = Hand(())
        other.frames = self.frames
        other.own = dict(self.own)
        other.said = self.said
        other.word = self.word
        return other

    def statement(self):
        """The next statement."""
        block, at, _ = self.frames[-1]
        return block[at]


def with_block(frames, block, times):
    """The frames with one more for so many rounds of a block, if there is anything to do in them."""
    return frames + ((block, 0, times),) if block and times > 0 else frames


def behind_statement(frames):
    """The frames behind the next statement: each of them has a statement that is to be done."""
    block, at, times = frames[-1]
    if at + 1 < len(block):
        return frames[:-1] + ((block, at + 1, times),)
    return with_block(frames[:-1], block, times - 1)


class Weave:
    """Hands on the same rooms, as far as they came."""

    def __init__(self, programs, rooms):
        self.rooms = rooms
        self.hands = [Hand(program.block) for program in programs]
        self.shared = {}
        # How many statements were begun, by all hands together.
        self.place = 0
        # The slips that were let and those that were found, each behind the number of statements begun ahead of it.
        self.passed = []
        self.found = []
        # The clause by which the first slip is found always.
        self.clause = None

    def twin(self):
        """An equal weave that goes on apart."""
        other = Weave((), self.rooms.twin())
        other.hands = [hand.twin() for hand in self.hands]
        other.shared = dict(self.shared)
        other.place = self.place
        other.passed = list(self.passed)
        other.found = list(self.found)
        other.clause = self.clause
        return other

    def can_come(self, number):
        """Whether a hand has something to do."""
        return self.hands[number].word == "on"

    def come(self, number):
        """Have a hand do its next statement."""
        hand = self.hands[number]
        statement = hand.statement()
        hand.frames = behind_statement(hand.frames)
        action = ACTIONS[statement[0]]
        hand.word = action(self, hand, statement)
        if hand.word == "on" and not hand.frames:
            hand.word = "over"
        self.place += 1

    def look(self, giving, room):
        """Whether a look is let; a slip is noted."""
        slip = self.rooms.slip(giving, room)
        let = self.rooms.lets(giving, room)
        if slip is not None and let:
            self.passed.append((self.place, slip))
        elif slip is not None:
            self.found.append((self.place, slip))
        if slip is not None and self.clause is None:
            self.clause = clause_of(self.rooms.web, slip, self.rooms.holds(slip[1]))
        return let


def words_of(weave):
    """For each hand "on", "over", or the word by which it ended."""
    return tuple([hand.word for hand in weave.hands])


def said_of(weave):
    """For each hand the tuple of the numbers that it printed."""
    return tuple([hand.said for hand in weave.hands])


def names_of(weave, hand, name):
    """The dict in which stands what a name of a hand holds."""
    return hand.own if len(name) == 1 else weave.shared


def held_in(weave, hand, name):
    """The pair of "number" or "giving" and the number that a name holds."""
    return names_of(weave, hand, name).get(name, ("number", 0))


def held_by(weave, hand, name, kind):
    """The number or the giving, whichever kind tells, that a name holds, or None if it holds the other."""
    own_kind, number = held_in(weave, hand, name)
    return number if own_kind == kind else None


def hold(weave, hand, name, kind, number):
    """Have a name hold a number or a giving."""
    names = names_of(weave, hand, name)
    names[name] = (kind, number)


def do_num(weave, hand, statement):
    """The word for ("num", name, k)."""
    hold(weave, hand, statement[1], "number", statement[2])
    return "on"


def do_sum(weave, hand, statement):
    """The word for ("sum", name, one, other)."""
    one = held_by(weave, hand, statement[2], "number")
    other = held_by(weave, hand, statement[3], "number")
    if one is None or other is None:
        return "wrong"
    hold(weave, hand, statement[1], "number", one + other)
    return "on"


def do_copy(weave, hand, statement):
    """The word for ("copy", name, other)."""
    _, name, other = statement
    kind, number = held_in(weave, hand, other)
    hold(weave, hand, name, kind, number)
    return "on"


def room_to_give(rooms, statement):
    """The room that a give or a take is to give and "on", or None and the word by which its hand ends."""
    if statement[0] == "take":
        room = rooms.least_free()
        return room, "full" if room is None else "on"
    room = statement[2]
    if not is_room(rooms.web, room):
        return None, "wrong"
    return (None, "held") if rooms.holds(room) else (room, "on")


def do_give(weave, hand, statement):
    """The word for ("give", name, room) and ("take", name)."""
    room, word = room_to_give(weave.rooms, statement)
    if room is None:
        return word
    tag, word = weave.rooms.pick(room)
    if word != "kept":
        return word
    hold(weave, hand, statement[1], "giving", weave.rooms.occupy(room, tag))
    return "on"


def do_back(weave, hand, statement):
    """The word for ("back", name)."""
    giving = held_by(weave, hand, statement[1], "giving")
    if giving is None:
        return "wrong"
    room = weave.rooms.room_of(giving)
    if not weave.look(giving, room):
        return "found"
    # Without tags a look at a free room is let, too.
    if weave.rooms.holds(room):
        weave.rooms.vacate(room)
    return "on"


def looked_at(weave, hand, name, move, cell):
    """The giving that a name holds and the room that a move leads to, or None if they or the cell are not there."""
    giving = held_by(weave, hand, name, "giving")
    if giving is None or cell >= weave.rooms.size:
        return None
    rooms = weave.rooms.reach(giving)
    return (giving, rooms[move]) if move < len(rooms) else None


def do_read(weave, hand, statement):
    """The word for ("read", name, held, move, cell)."""
    _, name, held, move, cell = statement
    place = looked_at(weave, hand, held, move, cell)
    if place is None:
        return "wrong"
    giving, room = place
    if not weave.look(giving, room):
        return "found"
    hold(weave, hand, name, "number", weave.rooms.worths[room][cell])
    return "on"


def do_write(weave, hand, statement):
    """The word for ("write", held, move, cell, one)."""
    _, held, move, cell, one = statement
    place = looked_at(weave, hand, held, move, cell)
    number = held_by(weave, hand, one, "number")
    if place is None or number is None:
        return "wrong"
    giving, room = place
    if not weave.look(giving, room):
        return "found"
    weave.rooms.put(room, cell, number)
    return "on"


def do_print(weave, hand, statement):
    """The word for ("print", name)."""
    number = held_by(weave, hand, statement[1], "number")
    if number is None:
        return "wrong"
    hand.said = hand.said + (number,)
    return "on"


def do_again(weave, hand, statement):
    """The word for ("again", times, block)."""
    hand.frames = with_block(hand.frames, statement[2], statement[1])
    return "on"


def do_if(weave, hand, statement):
    """The word for ("if", name, block, other)."""
    _, name, block, other = statement
    number = held_by(weave, hand, name, "number")
    if number is None:
        return "wrong"
    hand.frames = with_block(hand.frames, block if number != 0 else other, 1)
    return "on"


ACTIONS = {
    "num": do_num,
    "sum": do_sum,
    "copy": do_copy,
    "give": do_give,
    "take": do_give,
    "back": do_back,
    "read": do_read,
    "write": do_write,
    "print": do_print,
    "again": do_again,
    "if": do_if,
}
