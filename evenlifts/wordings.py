"""Lines taken apart into their words and numbers.

A file of the program's own use, not of the interface.
"""

from evenlifts.errors import CanNot
from evenlifts.signs import number_of, words_of


def parted(line):
    """The list of the words of line, [] if it has none, or a blank that parts none."""
    try:
        return words_of(line)
    except CanNot:
        return []


def numbers_behind(line, word):
    """The list of the numbers of a line of word and number words, None if it is no such line."""
    words = parted(line)
    numbers = [number_of(own) for own in words[1:]]
    if words[:1] != [word] or None in numbers:
        return None
    return numbers
