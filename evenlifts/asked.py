"""What is asked of a frame and two stands before anything is told of them.

A file of the program's own use, not of the interface.
"""

from evenlifts.errors import TooMany, Unfit
from evenlifts.frames import is_frame, is_two_coloured
from evenlifts.shapes import need_few, plain
from evenlifts.stands import is_stand

# With more jacks greatest passings are told of two-coloured frames alone.
MOST_JACKS = 8


def framed(frame, one, other):
    """frame, one and other as tuples; Unfit if they are not what they ought to be."""
    held, near, far = plain((frame, one, other))
    if not is_frame(held) or not is_stand(held, near) or not is_stand(held, far):
        raise Unfit()
    return (held, near, far)


def bounded(frame, one, other):
    """As framed, and TooMany if one and other are too far apart."""
    held, near, far = framed(frame, one, other)
    need_few(near, far)
    return (held, near, far)


def need_greatest(frame):
    """Raise TooMany if no greatest PASSING is told for frame."""
    if frame[0] > MOST_JACKS and not is_two_coloured(frame):
        raise TooMany()


def need_answer(frame, one, other):
    """Raise TooMany if one and other are too far apart, or no greatest PASSING is told for frame."""
    need_few(one, other)
    need_greatest(frame)
