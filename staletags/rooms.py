"""Rooms with their cells and givings, on which heaps and runs are led. Nothing that is passed is judged here."""

from staletags.keepers import deed_of
from staletags.looks import told_slip
from staletags.standings import begun, with_deed
from staletags.webs import tied


class Rooms:
    """Rooms without tags: nobody is asked for a tag, and all looks are let."""

    def __init__(self, web, size):
        self.web = web
        self.size = size
        self.now = begun(web)
        self.deeds = []
        # For each giving its room, its tag, and how many givings of that room came ahead of it.
        self.givings = []
        self.counts = [0 for _ in web.memories]
        self.worths = [(0,) * size for _ in web.memories]

    def twin(self):
        """Equal rooms that go on apart."""
        other = Rooms(self.web, self.size)
        self.tell(other)
        return other

    def tell(self, other):
        """Have other rooms of the same web be as these are."""
        other.now = self.now
        other.deeds = list(self.deeds)
        other.givings = list(self.givings)
        other.counts = list(self.counts)
        other.worths = list(self.worths)

    def holds(self, room):
        """Whether a room is held."""
        return self.now[room][0]

    def least_free(self):
        """The least free room, or None."""
        for room in range(len(self.now)):
            if not self.holds(room):
                return room
        return None

    def room_of(self, giving):
        """The room of a giving."""
        return self.givings[giving][0]

    def reach(self, giving):
        """The room of a giving, and behind it those tied to it, ascending."""
        room = self.room_of(giving)
        return (room,) + tied(self.web, room)

    def pick(self, room):
        """The tag for a giving of a free room, and "kept", or another word if it can't be given."""
        # Without tags one is as good as another.
        return 0, "kept"

    def occupy(self, room, tag):
        """Give a free room; returns the number of the giving."""
        self.note(("give", room, tag))
        self.givings.append((room, tag, self.counts[room]))
        self.counts[room] += 1
        self.worths[room] = (0,) * self.size
        return len(self.givings) - 1

    def vacate(self, room):
        """Give back a held room."""
        self.note(("back", room))

    def note(self, deed):
        """Note a deed that is done."""
        self.deeds.append(deed)
        self.now = with_deed(self.web, self.now, deed)

    def put(self, room, cell, number):
        """Have a cell of a room hold a number."""
        cells = self.worths[room]
        self.worths[room] = cells[:cell] + (number,) + cells[cell + 1:]

    def lets(self, giving, room):
        """Whether a look through the handle of a giving at a room is let."""
        return True

    def slip(self, giving, room):
        """The slip that a look through the handle of a giving at a room is, or None."""
        own, _, ahead = self.givings[giving]
        return told_slip(own, room, self.holds(room), self.counts[own] - 1 - ahead)


class TaggedRooms(Rooms):
    """Rooms with tags that a keeper picks: a look is let if the room shows the tag of the handle."""

    def __init__(self, web, k, keeper, size):
        super().__init__(web, size)
        self.k = k
        self.keeper = keeper

    def twin(self):
        """Equal rooms that go on apart."""
        other = TaggedRooms(self.web, self.k, self.keeper, self.size)
        self.tell(other)
        return other

    def pick(self, room):
        """The tag that the keeper picks for a free room, and the word for it."""
        keeper = self.keeper
        tag = keeper(self.web, self.k, tuple(self.deeds), room)
        _, word = deed_of(self.web, self.k, self.now, ("give", room), tag)
        return tag, word

    def lets(self, giving, room):
        """Whether a look through the handle of a giving at a room is let."""
        held, tags = self.now[room]
        return held and tags[0] == self.givings[giving][1]
