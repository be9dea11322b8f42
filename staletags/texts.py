"""Webs and programs, written as texts and read from them."""

from staletags.errors import BadText
from staletags.hands import PARTS, Program, inner_blocks, is_name
from staletags.webs import Web
from staletags.words import read_integer

MOST_DIGITS = 10


def web_text(web):
    """The text of a web."""
    rows = [" ".join(["rooms"] + [str(memory) for memory in web.memories])]
    return "\n".join(rows + [f"tie {one} {other}" for one, other in web.ties])


def program_text(program):
    """The text of a program."""
    return "\n".join(block_rows(program.block))


def block_rows(block):
    """The lines of a block."""
    rows = []
    for statement in block:
        words = [str(part) for part in statement if not isinstance(part, tuple)]
        blocks = [inner for _, inner in inner_blocks(statement)]
        if not blocks:
            rows.append(" ".join(words))
        else:
            rows.append(" ".join(words + ["do"]))
            rows.extend(block_rows(blocks[0]))
            for inner in blocks[1:]:
                rows.append("else")
                rows.extend(block_rows(inner))
            rows.append("end")
    return rows


def check_text(text):
    """Raise BadText unless this is a string."""
    if not isinstance(text, str):
        raise BadText(0)


def read_number(word):
    """The number that is written as this word, or None."""
    return None if word.startswith("-") else read_integer(word, MOST_DIGITS)


def read_web(text):
    """The web that a text tells."""
    check_text(text)
    lines = [read_web_row(row) for row in text.split("\n")]
    for at, line in enumerate(lines):
        if line is None or line[0] != ("rooms" if at == 0 else "tie"):
            raise BadText(at + 1)
    return Web(lines[0][1], tuple([numbers for _, numbers in lines[1:]]))


def read_web_row(row):
    """The word and the tuple of the numbers of a line of a web, or None."""
    words = row.split(" ")
    numbers = tuple([read_number(word) for word in words[1:]])
    if None in numbers:
        return None
    if words[0] == "rooms" or (words[0] == "tie" and len(numbers) == 2):
        return words[0], numbers
    return None


def read_program(text):
    """The program that a text tells."""
    check_text(text)
    reader = Reader()
    rows = text.split("\n") if text else []
    for at, row in enumerate(rows):
        if not reader.reads(row):
            raise BadText(at + 1)
    if reader.heads:
        raise BadText(len(rows) + 1)
    return Program(tuple(reader.blocks[0]))


class Reader:
    """The statements that were read of a text so far."""

    def __init__(self):
        # The statements whose blocks are being read, as far as they are there, the outermost first.
        self.heads = []
        # The statements of the program's block, and of the block that is being read of each head.
        self.blocks = [[]]

    def reads(self, row):
        """Whether a line can stand where the text goes on; it is read then."""
        if row in ("else", "end"):
            return self.ends_block(row)
        statement = read_statement(row)
        if statement is None:
            return False
        if "block" in PARTS[statement[0]]:
            self.heads.append(statement)
            self.blocks.append([])
        else:
            self.blocks[-1].append(statement)
        return True

    def ends_block(self, row):
        """Whether "else" or "end" can stand there; the block ahead of it is ended then."""
        if not self.heads:
            return False
        statement = self.heads[-1] + (tuple(self.blocks[-1]),)
        is_whole = len(statement) == 1 + len(PARTS[statement[0]])
        if is_whole != (row == "end"):
            return False
        if is_whole:
            self.heads.pop()
            self.blocks.pop()
            self.blocks[-1].append(statement)
        else:
            self.heads[-1] = statement
            self.blocks[-1] = []
        return True


def read_statement(row):
    """The statement of a line, without the blocks within it, or None."""
    words = row.split(" ")
    if words[0] not in PARTS:
        return None
    kinds = [kind for kind in PARTS[words[0]] if kind != "block"]
    behind = ["do"] if len(kinds) < len(PARTS[words[0]]) else []
    if len(words) != 1 + len(kinds) + len(behind) or words[1 + len(kinds):] != behind:
        return None
    parts = [read_part(kind, word) for kind, word in zip(kinds, words[1:])]
    if None in parts:
        return None
    return (words[0],) + tuple(parts)


def read_part(kind, word):
    """The part of this kind that is written as this word, or None."""
    if kind == "name":
        return word if is_name(word) else None
    return read_integer(word, MOST_DIGITS) if kind == "integer" else read_number(word)
