"""Texts of frames, heights, plans and prices, and pictures of floors."""

from evenlifts.errors import BadText
from evenlifts.frames import is_frame
from evenlifts.signs import lines_of, number_of, word_of
from evenlifts.wordings import numbers_behind, parted

_FORBIDDEN = "-"


def _line(word, numbers):
    """The line of word and numbers."""
    return " ".join([word] + [word_of(number) for number in numbers])


def frame_text(frame):
    """The text of frame."""
    n, beams = frame
    return "\n".join([_line("frame", [n])] + [_line("beam", beam) for beam in beams])


def heights_text(heights):
    """The text of heights."""
    return _line("heights", heights)


def plan_text(plan):
    """The text of plan."""
    return "\n".join(["plan"] + [_line("move", deed) for deed in plan])


def _stop_word(level, price):
    """The word of a told level and its price."""
    told = _FORBIDDEN if price is None else word_of(price)
    return word_of(level) + ":" + told


def prices_text(prices):
    """The text of prices."""
    rows = [" ".join([_line("jack", [even])] + [_stop_word(level, price) for level, price in told])
            for even, told in prices]
    return "\n".join(["prices"] + rows)


def _rows(width, heights):
    """The list of the rows of heights, width jacks each."""
    return [heights[at:at + width] for at in range(0, len(heights), width)]


def picture(width, heights):
    """The picture of heights, a row of width jacks each line."""
    words = [word_of(height) for height in heights]
    wide = max([len(word) for word in words])
    return "\n".join([" ".join([word.rjust(wide) for word in row]) for row in _rows(width, words)])


def _across(row):
    """The line of the jacks of row, and of the beams between them."""
    marks = ["x" if abs(low - high) > 1 else "-" for low, high in zip(row, row[1:])]
    return "o" + "".join([mark + "o" for mark in marks])


def _down(row, below):
    """The line of the beams between row and the one below."""
    return " ".join(["x" if abs(low - high) > 1 else "|" for low, high in zip(row, below)])


def beams_picture(width, heights):
    """The picture of the beams between heights, a row of width jacks each."""
    rows = _rows(width, heights)
    lines = [_across(rows[0])]
    for row, below in zip(rows, rows[1:]):
        lines.append(_down(row, below))
        lines.append(_across(below))
    return "\n".join(lines)


def _headed(text, word, many):
    """The list of the lines of text; BadText if the first one is not word and so many numbers."""
    lines = lines_of(text)
    numbers = numbers_behind(lines[0], word) if lines else None
    if numbers is None or len(numbers) != many:
        raise BadText(0)
    return lines


def read_frame(text):
    """The FRAME that has this text."""
    lines = _headed(text, "frame", 1)
    n = numbers_behind(lines[0], "frame")[0]
    if n < 2:
        raise BadText(0)
    beams = [(-1, -1)]
    for number, line in enumerate(lines[1:], 1):
        ends = numbers_behind(line, "beam")
        if ends is None or len(ends) != 2 or not 0 <= ends[0] < ends[1] < n or tuple(ends) <= beams[-1]:
            raise BadText(number)
        beams.append(tuple(ends))
    found = (n, tuple(beams[1:]))
    if not is_frame(found):
        raise BadText(len(lines))
    return found


def read_heights(text):
    """The HEIGHTS that have this text."""
    lines = lines_of(text)
    heights = numbers_behind(lines[0], "heights") if lines else None
    if heights is None:
        raise BadText(0)
    if len(lines) > 1 or len(heights) < 2:
        raise BadText(1)
    return tuple(heights)


def read_plan(text):
    """The PLAN that has this text."""
    lines = _headed(text, "plan", 0)
    found = []
    for number, line in enumerate(lines[1:], 1):
        deed = numbers_behind(line, "move")
        if deed is None or len(deed) != 2 or deed[0] < 0:
            raise BadText(number)
        found.append(tuple(deed))
    return tuple(found)


def _told_stop(word):
    """The pair of a told level and its price that word tells, None if it tells none."""
    ahead, _, behind = word.partition(":")
    level, price = number_of(ahead), number_of(behind)
    if level is None or (behind != _FORBIDDEN and (price is None or price < 0)):
        return None
    return (level, price)


def _told_part(line):
    """What line tells of one jack's prices, None if it tells nothing such."""
    words = parted(line)
    if words[:1] != ["jack"] or len(words) < 2:
        return None
    even = number_of(words[1])
    told = [_told_stop(word) for word in words[2:]]
    if even is None or even < 1 or None in told:
        return None
    if not all([here[0] < behind[0] for here, behind in zip(told, told[1:])]):
        return None
    return (even, tuple(told))


def read_prices(text):
    """The PRICES that have this text."""
    lines = _headed(text, "prices", 0)
    found = []
    for number, line in enumerate(lines[1:], 1):
        part = _told_part(line)
        if part is None:
            raise BadText(number)
        found.append(part)
    if len(found) < 2:
        raise BadText(len(lines))
    return tuple(found)


def _row_of(line):
    """The list of the numbers of a line of a picture, [] if it is none."""
    numbers = [number_of(word) for word in line.split(" ") if word != ""]
    if None in numbers or line.endswith(" "):
        return []
    return numbers


def read_picture(text):
    """The pair of the width and the heights that have this picture."""
    lines = lines_of(text)
    if not lines:
        raise BadText(0)
    rows = [_row_of(line) for line in lines]
    width = len(rows[0])
    for number, row in enumerate(rows):
        if not row or len(row) != width:
            raise BadText(number)
    heights = tuple([height for row in rows for height in row])
    for number, (told, line) in enumerate(zip(lines_of(picture(width, heights)), lines)):
        if told != line:
            raise BadText(number)
    if len(heights) == 1:
        raise BadText(1)
    return (width, heights)
