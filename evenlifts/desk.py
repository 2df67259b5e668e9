"""A desk: requests, one a line, and the replies of a yard."""

from evenlifts.errors import BadText, CanNot, NoBeam, NoJack, NoStand, NothingDone, TooMany, Unfit
from evenlifts.signs import lines_of, number_of, word_of
from evenlifts.wordings import parted
from evenlifts.yard import Yard

_MOST_FIGURES = 13

# For each word of an EDIT but "plan" what stands behind it: each a word of its own.
_SHAPES = {
    "move": ("jack", "height"),
    "beam": ("jack", "jack"),
    "out": ("jack", "jack"),
    "more": ("jack",),
    "goal": ("jack", "maybe height"),
    "price": ("jack", "height", "maybe price"),
    "even": ("jack", "even"),
}
# The least number of what must not be below one.
_LEAST = {"jack": 0, "maybe price": 0, "even": 1}
_ASKED = ("undo", "redo", "heights", "aim", "fewest", "cost")


def _number_told(word, kind):
    """The list of the one number, or None, that word tells; [] if it tells nothing of this kind."""
    if word == "-" and kind.startswith("maybe"):
        return [None]
    if len(word.lstrip("-")) > _MOST_FIGURES:
        return []
    number = number_of(word)
    return [] if number is None or number < _LEAST.get(kind, number) else [number]


def _deed_told(word):
    """The list of the one DEED that word tells; [] if it tells none."""
    ahead, _, behind = word.partition(":")
    found = _number_told(ahead, "jack") + _number_told(behind, "height")
    return [tuple(found)] if len(found) == 2 else []


def _edit_told(words):
    """The EDIT that words tell, () if they tell none."""
    if words[0] == "plan":
        deeds = [deed for word in words[1:] for deed in _deed_told(word)]
        return ("plan", tuple(deeds)) if len(deeds) == len(words) - 1 else ()
    kinds = _SHAPES.get(words[0], None)
    if kinds is None or len(kinds) != len(words) - 1:
        return ()
    found = [number for word, kind in zip(words[1:], kinds) for number in _number_told(word, kind)]
    return (words[0],) + tuple(found) if len(found) == len(kinds) else ()


def is_request(line):
    """Whether line is a request."""
    words = parted(line)
    return words != [] and (line in _ASKED or _edit_told(words) != ())


def _row_of(heights):
    """The words of heights, a blank between."""
    return " ".join([word_of(height) for height in heights])


def _reply(yard, line):
    """What yard replies to a request; what it raises is raised here, too."""
    if line == "heights":
        return _row_of(yard.stand())
    if line == "aim":
        return _row_of(yard.aim())
    if line == "fewest":
        return word_of(yard.fewest())
    if line == "cost":
        return word_of(yard.cost())
    if line == "undo":
        yard.undo()
    elif line == "redo":
        yard.redo()
    else:
        yard.do(_edit_told(parted(line)))
    return "done"


def _reply_or_no(yard, line):
    """What yard replies to a request, or which error it has for it."""
    try:
        return _reply(yard, line)
    except NoJack:
        return "no NoJack"
    except NoBeam:
        return "no NoBeam"
    except NothingDone:
        return "no NothingDone"
    except Unfit:
        return "no Unfit"
    except NoStand:
        return "no NoStand"
    except CanNot:
        return "no CanNot"
    except TooMany:
        return "no TooMany"


def _run(frame, text):
    """The pair of the replies to all lines of text, and of the Yard behind them."""
    lines = lines_of(text)
    for number, line in enumerate(lines):
        if not is_request(line):
            raise BadText(number)
    yard = Yard(frame)
    return ([_reply_or_no(yard, line) for line in lines], yard)


def replies(frame, text):
    """The list of the replies to the requests of text, by a new Yard."""
    return _run(frame, text)[0]


def last_yard(frame, text):
    """A new Yard behind all requests of text."""
    return _run(frame, text)[1]
