"""Texts by lines: each ends with a line feed, words have one blank between, numbers are written in one way alone."""

from anyprice.refusals import BadText

FIGURES = "0123456789"


def as_line(words):
    """A line of words and numbers."""
    return " ".join([str(word) for word in words]) + "\n"


def is_written_number(word):
    """Whether it is a number as it is written: without leading noughts, a minus ahead of one below 0."""
    figures = word[1:] if word[:1] == "-" else word
    if figures == "" or not all([sign in FIGURES for sign in figures]):
        return False
    return word == "0" or figures[0] != "0"


def number_of(word):
    """The number that a word writes, figure by figure, as it may be longer than Python reads at once."""
    number = 0
    for sign in word:
        if sign != "-":
            number = number * 10 + FIGURES.index(sign)
    return -number if word[0] == "-" else number


def numbers_of_words(words):
    """The list of the numbers that words write, None if one writes none."""
    if not all([is_written_number(word) for word in words]):
        return None
    return [number_of(word) for word in words]


def read_lines(text, taker):
    """How many lines a text has, all of which the taker took: its take_line tells of a line's words whether they fit.

    BadText with the first line that does not fit, or has no line feed; with 0 for what is no string.
    """
    if not isinstance(text, str):
        raise BadText(0)
    lines = text.split("\n")
    last = lines.pop()
    for index, line in enumerate(lines):
        if not taker.take_line(line.split(" ")):
            raise BadText(index + 1)
    if last != "":
        raise BadText(len(lines) + 1)
    return len(lines)
