"""The words of the document on looks, runs and weavings, read plainly; and random programs."""

from helpers import Story
from staletags.errors import BadProgram
from staletags.hands import Program


def flow(block, number):
    """The statements of a block, each as it is begun; number tells what a name holds."""
    for statement in block:
        yield statement
        if statement[0] == "again":
            for _ in range(statement[1]):
                yield from flow(statement[2], number)
        if statement[0] == "if":
            yield from flow(statement[2] if number(statement[1]) else statement[3], number)


class Ended(Exception):
    """A hand ends by a word."""


class Giving:
    """What a name holds that holds a giving."""

    def __init__(self, number):
        self.number = number


class Memory:
    """Rooms with cells, and tags if there is a keeper."""

    def __init__(self, web, size, k=None, keeper=None, barred_too=False):
        self.web, self.size, self.k, self.keeper, self.barred_too = web, size, k, keeper, barred_too
        self.story = Story(web)
        self.cells = [[0] * size for _ in web.memories]
        self.handles = []

    def lot(self, room):
        return [other for other in range(len(self.cells)) if self.story.are_tied(room, other)]

    def give(self, room):
        tag = 0
        if self.keeper is not None:
            tag = self.keeper(self.web, self.k, self.story.past, room)
            if tag is None:
                raise Ended("stuck")
            if type(tag) is not int or tag not in range(self.k):
                raise Ended("odd")
            if tag in self.story.barred(room) and not self.barred_too:
                raise Ended("barred")
        self.story.do(("give", room, tag))
        self.handles.append((room, tag))
        self.cells[room] = [0] * self.size
        return Giving(len(self.handles) - 1)

    def is_let(self, giving, room):
        if self.keeper is None:
            return True
        return self.story.held[room] and self.story.given[room][-1] == self.handles[giving][1]

    def slip(self, giving, room):
        own = self.handles[giving][0]
        age = [other for other, _ in self.handles[giving + 1:]].count(own)
        if not self.story.held[room]:
            return ("free", own, room)
        if room != own:
            return ("near", own, room, age)
        return ("elder", own, age) if age else None

    def clause(self, slip):
        if slip[0] == "free":
            return "free"
        if slip[0] == "elder" and slip[2] <= self.web.memories[slip[1]]:
            return "elder"
        if slip[0] == "near" and slip[3] == 0 and self.story.held[slip[1]]:
            return "near"
        return "open"


class Hands:
    """Hands on one memory; each slip stands in one list, behind the number of steps ahead of it, and whether it was let."""

    def __init__(self, blocks, memory):
        self.memory = memory
        self.all = {}
        self.own = [{} for _ in blocks]
        self.said = [[] for _ in blocks]
        self.words = ["on" for _ in blocks]
        self.place = 0
        self.slips = []
        self.clauses = []
        self.flows = [flow(block, lambda name, n=n: self.get(n, name)) for n, block in enumerate(blocks)]
        self.ahead = [next(each, None) for each in self.flows]
        for n, statement in enumerate(self.ahead):
            if statement is None:
                self.words[n] = "over"

    def get(self, n, name):
        return (self.own[n] if len(name) == 1 else self.all).get(name, 0)

    def set(self, n, name, worth):
        (self.own[n] if len(name) == 1 else self.all)[name] = worth

    def number(self, n, name):
        if isinstance(self.get(n, name), Giving):
            raise Ended("wrong")
        return self.get(n, name)

    def giving(self, n, name):
        if not isinstance(self.get(n, name), Giving):
            raise Ended("wrong")
        return self.get(n, name).number

    def step(self, n):
        try:
            self.do(n, *self.ahead[n])
            self.ahead[n] = next(self.flows[n], None)
            if self.ahead[n] is None:
                self.words[n] = "over"
        except Ended as end:
            self.words[n] = end.args[0]
        self.place += 1

    def look(self, giving, room):
        slip, let = self.memory.slip(giving, room), self.memory.is_let(giving, room)
        if slip is not None:
            self.clauses.append(self.memory.clause(slip))
            self.slips.append((self.place, slip, let))
        if not let:
            raise Ended("found")

    def place_of(self, n, held, move, cell):
        giving = self.giving(n, held)
        own = self.memory.handles[giving][0]
        rooms = [own] + self.memory.lot(own)
        if move >= len(rooms) or cell >= self.memory.size:
            raise Ended("wrong")
        return giving, rooms[move]

    def do(self, n, word, *parts):
        memory, story = self.memory, self.memory.story
        if word == "num":
            self.set(n, parts[0], parts[1])
        elif word == "sum":
            self.set(n, parts[0], self.number(n, parts[1]) + self.number(n, parts[2]))
        elif word == "copy":
            self.set(n, parts[0], self.get(n, parts[1]))
        elif word == "give":
            if parts[1] >= len(memory.cells):
                raise Ended("wrong")
            if story.held[parts[1]]:
                raise Ended("held")
            self.set(n, parts[0], memory.give(parts[1]))
        elif word == "take":
            if all(story.held):
                raise Ended("full")
            self.set(n, parts[0], memory.give(story.held.index(False)))
        elif word == "back":
            giving = self.giving(n, parts[0])
            room = memory.handles[giving][0]
            self.look(giving, room)
            if story.held[room]:
                story.do(("back", room))
        elif word == "read":
            giving, room = self.place_of(n, *parts[1:])
            self.look(giving, room)
            self.set(n, parts[0], memory.cells[room][parts[3]])
        elif word == "write":
            number = self.number(n, parts[3])
            giving, room = self.place_of(n, *parts[:3])
            self.look(giving, room)
            memory.cells[room][parts[2]] = number
        elif word == "print":
            self.said[n].append(self.number(n, parts[0]))
        else:
            assert word in ("again", "if")
            if word == "if":
                self.number(n, parts[0])

    def told(self):
        return tuple(self.words), tuple(tuple(said) for said in self.said)

    def let_slips(self):
        return tuple((place, slip) for place, slip, let in self.slips if let)

    def found_slips(self):
        return tuple((place, slip) for place, slip, let in self.slips if not let)

    def first_clause(self):
        return self.clauses[0] if self.clauses else None


def run(program, memory, most):
    hands = Hands([program.block], memory)
    while hands.words[0] == "on" and hands.place < most:
        hands.step(0)
    return hands


def read_plain(program, web, size, most):
    """What plain tells."""
    hands = run(program, Memory(web, size), most)
    return hands.words[0], tuple(hands.said[0]), hands.let_slips()


def read_tagged(program, web, k, keeper, size, most, barred_too=False):
    """What tagged tells."""
    hands = run(program, Memory(web, size, k, keeper, barred_too), most)
    found = hands.found_slips()
    return hands.words[0], tuple(hands.said[0]), hands.let_slips(), found[0][1] if found else None


def read_clause(program, web, size, most):
    """What found_always tells."""
    return run(program, Memory(web, size), most).first_clause()


WORDS = ["num", "sum", "copy", "give", "take", "back", "read", "write", "print", "again", "if"]
WEIGHTS = [2, 1, 1, 4, 3, 5, 5, 3, 3, 1, 1]


def random_program(dice, web, size, many=14, names="abnm", tamed=0.95):
    """A random program; most of its statements, all if tamed is 1, could be done where they came first."""
    while True:
        try:
            return Program(random_block(dice, Hands([()], Memory(web, size)), many, names, tamed, 1))
        except BadProgram as error:
            # More than 60 statements, and nothing else that is wrong.
            assert error.place == ()


def random_block(dice, trial, many, names, tamed, depth):
    """A random block; its statements are tried as they come, those of blocks within once."""
    block = []
    while len(block) < many:
        word = dice.choices(WORDS, WEIGHTS)[0]
        if word in ("again", "if"):
            if depth < 4 and many > 2:
                block.append(random_nested(dice, trial, word, many, names, tamed, depth))
            continue
        statement = random_statement(dice, trial.memory, word, names)
        try:
            trial.do(0, *statement)
        except Ended:
            if dice.random() < tamed:
                continue
        block.append(statement)
    return tuple(block)


def random_nested(dice, trial, word, many, names, tamed, depth):
    block, other = [random_block(dice, trial, dice.randrange(many // 4 + 2), names, tamed, depth + 1) for _ in range(2)]
    if word == "again":
        return word, dice.choice((0, 1, 2, 2, 3)), block
    return word, dice.choice(names), block, other


def random_statement(dice, memory, word, names):
    name, other, third = [dice.choice(names) for _ in range(3)]
    room, cell = dice.randrange(len(memory.cells) + 1), dice.choice((0, 0, dice.randrange(memory.size + 1)))
    move = dice.choice((0, 1, 1, 2, 3))
    return {
        "num": (word, name, dice.randrange(-2, 3)), "sum": (word, name, other, third), "copy": (word, name, other),
        "give": (word, name, room), "take": (word, name), "back": (word, name), "print": (word, name),
        "read": (word, name, other, move, cell), "write": (word, name, move, cell, other),
    }[word]
