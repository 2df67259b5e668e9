"""Lines, words and number words."""

from evenlifts.errors import CanNot

_FIGURES = "0123456789"


def lines_of(text):
    """The list of the lines of text, parted by line feeds alone."""
    if text == "":
        return []
    return text.split("\n")


def words_of(line):
    """The list of the words of line, parted by single blanks."""
    if line == "":
        return []
    words = line.split(" ")
    if "" in words:
        raise CanNot()
    return words


def _is_size(figures):
    """Whether figures are the figures of a number from 0, no 0 ahead of others."""
    # Not isdigit: that takes figures of other scripts, too.
    if figures == "" or not all([sign in _FIGURES for sign in figures]):
        return False
    return figures == "0" or not figures.startswith("0")


def number_of(word):
    """The number of a number word, None if word is none."""
    if word.startswith("-"):
        below = word[1:]
        return int(word) if _is_size(below) and below != "0" else None
    return int(word) if _is_size(word) else None


def word_of(number):
    """The number word of number."""
    return str(number)
