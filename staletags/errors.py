"""The errors of the package. Each keeps what it was made with in attributes."""


class TagError(ValueError):
    """The base of all errors of the package."""

    def __init__(self):
        super().__init__()


class NoRoom(TagError):
    """What was passed as a room is no room of the web."""


class NoNumber(TagError):
    """What was passed as a number is none, or not within the bounds that are named for it."""


class NoTags(TagError):
    """How many tags there are is no integer from 1 to 200."""


class NoDeed(TagError):
    """What was passed as a deed can't be done there."""


class TooFew(TagError):
    """There are too few tags for what is asked."""


class NotFew(TagError):
    """There are too many tags for a foe that beats every keeper."""


class NoSlip(TagError):
    """What was passed as a slip is none of the web."""


class NotRight(TagError):
    """The steady keeper is not right."""


class NotFree(TagError):
    """The room that is to be given is held."""


class Full(TagError):
    """No room is free."""


class NoGiving(TagError):
    """What was passed is no number of a giving."""


class NoNear(TagError):
    """What was passed is neither the handle's own room nor one that is tied to it."""


class NoPast(TagError):
    """What was passed as a past is none of the web."""


class NoText(TagError):
    """What was passed as a text is no string."""


class NoHands(TagError):
    """What was passed as hands is no tuple of 1 to 3 programs."""


class NoWay(TagError):
    """What was passed is no way of drawing tags."""


class BadWeb(TagError):
    """A web can't be made: part is "memories", "ties", or the number of the first bad tie."""

    def __init__(self, part):
        self.part = part


class NoRow(TagError):
    """What was passed is no row of asks: index is that of the first bad ask, -1 for no list or tuple."""

    def __init__(self, index):
        self.index = index


class TooMany(TagError):
    """There are more cases to look at than most."""

    def __init__(self, most):
        self.most = most


class BadFoe(TagError):
    """A foe asked for what can't be done: index is the number of this ask."""

    def __init__(self, index):
        self.index = index


class NotKept(TagError):
    """A keeper picked no tag that can be given: word is "barred", "stuck" or "odd"."""

    def __init__(self, word):
        self.word = word


class BadProgram(TagError):
    """A program can't be made: place is the way to the first bad statement."""

    def __init__(self, place):
        self.place = place


class BadText(TagError):
    """A text can't be read: line is the number of the first bad line, 0 for no string."""

    def __init__(self, line):
        self.line = line


class NoWeaving(TagError):
    """What was passed is no weaving: place is the first bad one in it, -1 for no tuple."""

    def __init__(self, place):
        self.place = place
