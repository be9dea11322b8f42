"""Heaps: the rooms of a web, led live with tags that a keeper picks, and with a journal."""

from staletags.errors import Full, NoGiving, NoNumber, NotFree, NotKept
from staletags.kinds import check_number, check_size, check_tags, is_between, is_integer
from staletags.looks import check_near
from staletags.rooms import TaggedRooms
from staletags.webs import check_room
from staletags.words import written


class Heap:
    """A heap of tagged rooms, all of them free at first."""

    def __init__(self, web, k, keeper, size):
        check_tags(k)
        check_size(size)
        self._rooms = TaggedRooms(web, k, keeper, size)
        self._looks = 0
        self._slips = []
        self._lines = []

    def give(self, room):
        """Give a room; returns the number of the giving."""
        check_room(self._rooms.web, room)
        if self._rooms.holds(room):
            raise NotFree()
        tag, word = self._rooms.pick(room)
        if word != "kept":
            raise NotKept(word)
        self.redo(("give", room, tag))
        return len(self._rooms.givings) - 1

    def take(self):
        """Give the least free room; returns the number of the giving."""
        room = self._rooms.least_free()
        if room is None:
            raise Full()
        return self.give(room)

    def back(self, giving):
        """Give back the room of a giving, if the look at it is let."""
        self._check_giving(giving)
        room = self._rooms.room_of(giving)
        if not self._look(giving, room):
            return "found", 0
        self.redo(("back", room))
        return "let", 0

    def read(self, giving, room, cell):
        """What a cell of a room holds, if the look at it is let."""
        self._check_look(giving, room, cell)
        if not self._look(giving, room):
            return "found", 0
        return "let", self._rooms.worths[room][cell]

    def write(self, giving, room, cell, number):
        """Have a cell of a room hold a number, if the look at it is let."""
        self._check_look(giving, room, cell)
        if not is_integer(number):
            raise NoNumber()
        if not self._look(giving, room):
            return "found", 0
        self.redo(("put", room, cell, number))
        return "let", number

    def past(self):
        """The deeds so far."""
        return tuple(self._rooms.deeds)

    def standing(self):
        """The standing behind the deeds so far."""
        return self._rooms.now

    def handles(self):
        """The handles of all givings."""
        return [(room, tag) for room, tag, _ in self._rooms.givings]

    def cells(self, room):
        """What the cells of a room hold."""
        check_room(self._rooms.web, room)
        return self._rooms.worths[room]

    def slips(self):
        """The slips that were let, each behind the number of its look."""
        return list(self._slips)

    def looks(self):
        """How many looks there were."""
        return self._looks

    def journal(self):
        """A line for each deed and each write that was let."""
        return "".join([line_text(line) for line in self._lines])

    def copy(self):
        """A heap that goes on apart."""
        rooms = self._rooms
        other = Heap(rooms.web, rooms.k, rooms.keeper, rooms.size)
        other._rooms = rooms.twin()
        other._looks = self._looks
        other._slips = list(self._slips)
        other._lines = list(self._lines)
        return other

    def redo(self, line):
        """Do what a line of a journal tells: nobody is asked, nothing is judged."""
        self._lines.append(line)
        if line[0] == "give":
            self._rooms.occupy(line[1], line[2])
        elif line[0] == "back":
            self._rooms.vacate(line[1])
        else:
            self._rooms.put(line[1], line[2], line[3])

    def _check_giving(self, giving):
        """Raise NoGiving unless this is the number of a giving."""
        if not is_between(0, len(self._rooms.givings) - 1, giving):
            raise NoGiving()

    def _check_look(self, giving, room, cell):
        """Raise NoGiving, NoNear or NoNumber unless these are a giving, a room near its own one, and a cell."""
        self._check_giving(giving)
        check_near(self._rooms.web, self._rooms.room_of(giving), room)
        check_number(0, self._rooms.size - 1, cell)

    def _look(self, giving, room):
        """Whether a look is let. It is counted, and noted if it is a slip that is let."""
        slip = self._rooms.slip(giving, room)
        let = self._rooms.lets(giving, room)
        if let and slip is not None:
            self._slips.append((self._looks, slip))
        self._looks += 1
        return let


def line_text(line):
    """A line of a journal as it is written, with the line feed that closes it."""
    return " ".join([line[0]] + [written(number) for number in line[1:]]) + "\n"
