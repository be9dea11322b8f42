"""Integers as they are written in journals and texts."""

DIGITS = "0123456789"

# How many digits are written at once, and the least number that has more.
MANY = 60
MORE = 10 ** 60


def read_integer(word, most):
    """The integer that is written as this word, in so many digits at most, or None."""
    bare = word[1:] if word.startswith("-") else word
    # Asked ahead of int, which takes blanks, underscores and other signs, too.
    if not 1 <= len(bare) <= most or not all([sign in DIGITS for sign in bare]):
        return None
    number = int(word)
    # A needless 0 or - is not written again.
    return number if str(number) == word else None


def written(number):
    """An integer as a word."""
    parts = []
    left = abs(number)
    # Part by part, as Python refuses to write an integer of some thousands of digits at once.
    while left >= MORE:
        left, last = divmod(left, MORE)
        parts.append(str(last).zfill(MANY))
    parts.append(str(left))
    return ("-" if number < 0 else "") + "".join(parts[::-1])
