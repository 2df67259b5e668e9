"""Changed frames: a beam or a jack more or less, and what a beam out saves."""

from evenlifts.asked import need_answer
from evenlifts.errors import CanNot, NoBeam
from evenlifts.fewest import fewest_deeds
from evenlifts.frames import is_frame
from evenlifts.heaviest import greatest_of, most_of
from evenlifts.pairs import beside_lists
from evenlifts.passings import passes
from evenlifts.shapes import need_jack, plain


def _need_jacks(frame, jacks):
    """Raise NoJack for the first of jacks that is none of frame."""
    for jack in jacks:
        need_jack(frame, jack)


def _without(frame, beam):
    """frame without beam, be that a FRAME or not."""
    return (frame[0], tuple([own for own in frame[1] if own != beam]))


def beam_more(frame, beam):
    """The FRAME with beam, too."""
    held, ends = plain((frame, beam))
    _need_jacks(held, ends)
    if ends in held[1]:
        raise CanNot()
    return (held[0], tuple(sorted(held[1] + (ends,))))


def _less(frame, beam):
    """frame without beam; the errors of what is no loose beam."""
    _need_jacks(frame, beam)
    if beam not in frame[1]:
        raise NoBeam(beam)
    left = _without(frame, beam)
    if not is_frame(left):
        raise CanNot()
    return left


def beam_less(frame, beam):
    """The FRAME without beam."""
    held, ends = plain((frame, beam))
    return _less(held, ends)


def _all_loose(frame):
    """The list, ascending, of all loose beams."""
    return [beam for beam in frame[1] if is_frame(_without(frame, beam))]


def loose_beams(frame):
    """The set of all loose beams."""
    return tuple(_all_loose(plain(frame)))


def jack_more(frame, lot):
    """The FRAME with a jack more, behind all others, and a beam from each of lot to it."""
    held, jacks = plain((frame, lot))
    _need_jacks(held, jacks)
    return (held[0] + 1, tuple(sorted(held[1] + tuple([(jack, held[0]) for jack in jacks]))))


def jack_less(frame, jack):
    """The FRAME of all others, the numbers above jack's each 1 less."""
    held = plain(frame)
    need_jack(held, jack)
    beams = [(low, high) for low, high in held[1] if jack not in (low, high)]
    left = [(low - 1 if low > jack else low, high - 1 if high > jack else high) for low, high in beams]
    less = (held[0] - 1, tuple(left))
    if not is_frame(less):
        raise CanNot()
    return less


def bears(frame, stand, beam):
    """Whether both ends of beam differ by at most 1."""
    held, here, ends = plain((frame, stand, beam))
    _need_jacks(held, ends)
    return abs(here[ends[0]] - here[ends[1]]) <= 1


def heights_let(frame, stand, lot):
    """The set of the heights that a jack more, with a beam from each of lot, can have at stand."""
    held, here, jacks = plain((frame, stand, lot))
    _need_jacks(held, jacks)
    around = [here[jack] for jack in jacks]
    return tuple(range(max(around) - 1, min(around) + 2))


def _answered(frame, one, other):
    """All three as tuples; TooMany if no greatest PASSING is told for them."""
    held, near, far = plain((frame, one, other))
    need_answer(held, near, far)
    return (held, near, far)


def saving(frame, one, other, beam):
    """How many DEEDS fewer lead from one to other without beam."""
    held, near, far = _answered(frame, one, other)
    left = _less(held, plain(beam))
    return fewest_deeds(held, near, far) - fewest_deeds(left, near, far)


def greatest_saving(frame, one, other):
    """The pair of the greatest saving of a loose beam, and of the set of all that have it."""
    held, near, far = _answered(frame, one, other)
    beams = _all_loose(held)
    if not beams:
        raise CanNot()
    left = [fewest_deeds(_without(held, beam), near, far) for beam in beams]
    least = min(left)
    best = [beam for beam, many in zip(beams, left) if many == least]
    return (fewest_deeds(held, near, far) - least, tuple(best))


def saving_paper(frame, one, other, beam):
    """A pair of a greatest PASSING of frame, and of one of frame without beam."""
    held, near, far = _answered(frame, one, other)
    left = _less(held, plain(beam))
    return (greatest_of(beside_lists(held, near, far)), greatest_of(beside_lists(left, near, far)))


def _is_greatest(frame, one, other, thing):
    """Whether thing is a greatest PASSING."""
    return passes(frame, one, other, thing) and len(thing) == most_of(beside_lists(frame, one, other))


def is_saving_paper(frame, one, other, beam, thing):
    """Whether thing is a pair of a greatest PASSING of frame, and of one of frame without beam."""
    held, near, far = _answered(frame, one, other)
    left = _less(held, plain(beam))
    if not isinstance(thing, tuple) or len(thing) != 2:
        return False
    return _is_greatest(held, near, far, thing[0]) and _is_greatest(left, near, far, thing[1])
