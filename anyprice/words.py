"""Words: strings of one to eight letters."""

LETTERS = "abcdefghijklmnopqrstuvwxyz"
MOST_LETTERS = 8


def is_word(thing):
    """Whether it is a string of 1 to 8 letters a to z."""
    return isinstance(thing, str) and 1 <= len(thing) <= MOST_LETTERS and all([sign in LETTERS for sign in thing])
