"""Runs of programs, without tags and with them."""

from staletags.kinds import check_number, check_size, check_tags
from staletags.rooms import Rooms, TaggedRooms
from staletags.steps import Weave, said_of, words_of

MOST_RUN = 5000


def check_run(size, most):
    """Raise NoNumber unless these are a count of cells and one of statements."""
    check_size(size)
    check_number(0, MOST_RUN, most)


def run_on(weave, most):
    """Have a weave of one hand go on until so many statements were begun."""
    while weave.can_come(0) and weave.place < most:
        weave.come(0)


def plain_run(program, web, size, most):
    """The weave behind the run of a program without tags."""
    check_run(size, most)
    weave = Weave((program,), Rooms(web, size))
    run_on(weave, most)
    return weave


def plain(program, web, size, most):
    """How the run of a program without tags ends, what it said, and its slips."""
    weave = plain_run(program, web, size, most)
    return words_of(weave)[0], said_of(weave)[0], tuple(weave.passed)


def tagged(program, web, k, keeper, size, most):
    """How the run of a program on a heap ends, what it said, the slips that were let, and the one that was found."""
    check_tags(k)
    check_run(size, most)
    weave = Weave((program,), TaggedRooms(web, k, keeper, size))
    run_on(weave, most)
    return told_run(weave)


def told_run(weave):
    """What is told of a run with tags."""
    slip = weave.found[0][1] if weave.found else None
    return words_of(weave)[0], said_of(weave)[0], tuple(weave.passed), slip


def found_always(program, web, size, most):
    """By which clause the first slip of the run without tags is found always, "open", or None."""
    return plain_run(program, web, size, most).clause
