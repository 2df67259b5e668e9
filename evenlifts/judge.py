"""Claims, and one judge for all papers that show that they are so, or that they are not."""

from evenlifts.asked import need_answer
from evenlifts.couples import are_couples, greatest_couples
from evenlifts.deeds import comes_to, is_plan
from evenlifts.errors import CanNot, NoWord, Unfit
from evenlifts.fewest import fewest, shortest_plan
from evenlifts.frames import colours, is_colours, is_frame, is_odd_ring, is_two_coloured, odd_ring
from evenlifts.goals import (
    can_fit, fits, goal_bar, is_goal, is_goal_bar, is_why_moved, must_move, nearest_stand, plan_to_goal, why_moved,
)
from evenlifts.loads import is_loads, least_loads, loads_sum
from evenlifts.owndeeds import is_lot, lot_fewest, lot_plan, own_paper
from evenlifts.pairs import all_pairs
from evenlifts.plans import can_walk
from evenlifts.prices import bar, can_come, cheap_plan, cheapest, is_bar, is_prices, plan_price, stop_price
from evenlifts.shapes import apart_by, is_jack, is_number, need_jack, plain
from evenlifts.stands import is_stand, level_stand

# For each word what a CLAIM has behind it and its FRAME.
_KINDS = {
    "two": (),
    "come": ("prices", "stand", "stand"),
    "fewest": ("stand", "stand", "many"),
    "cheap": ("prices", "stand", "stand", "many"),
    "lot": ("stand", "stand", "lot", "many"),
    "fits": ("goal",),
    "move": ("stand", "goal", "jack"),
}


def _is_kind(frame, kind, thing):
    """Whether thing is what kind tells, of frame."""
    if kind == "prices":
        return is_prices(frame, thing)
    if kind == "stand":
        return is_stand(frame, thing)
    if kind == "lot":
        return is_lot(frame, thing)
    if kind == "goal":
        return is_goal(frame, thing)
    if kind == "jack":
        return is_jack(frame, thing)
    return is_number(thing) and thing >= 0


def is_claim(thing):
    """Whether thing is a CLAIM."""
    if not isinstance(thing, tuple) or len(thing) < 2 or not isinstance(thing[0], str) or thing[0] not in _KINDS:
        return False
    kinds = _KINDS[thing[0]]
    if len(thing) != len(kinds) + 2 or not is_frame(thing[1]):
        return False
    return all([_is_kind(thing[1], kind, part) for kind, part in zip(kinds, thing[2:])])


def _claimed(claim):
    """claim as tuples; NoWord or Unfit if it has no word of a CLAIM, or not as many things."""
    held = plain(claim)
    if not isinstance(held, tuple) or held == () or not isinstance(held[0], str):
        raise Unfit()
    if held[0] not in _KINDS:
        raise NoWord(held[0])
    if len(held) != len(_KINDS[held[0]]) + 2:
        raise Unfit()
    return held


def _of_lot(deeds, lot):
    """How many of deeds, or of pairs, are of jacks of lot."""
    return len([deed for deed in deeds if deed[0] in lot])


def _two_so(frame):
    """Whether frame is two-coloured."""
    return is_two_coloured(frame)


def _come_so(frame, prices, one, other):
    """Whether some PLAN that is let leads there."""
    return can_come(frame, prices, one, other)


def _fewest_so(frame, one, other, many):
    """Whether some PLAN of at most many DEEDS leads there."""
    return fewest(frame, one, other) <= many


def _cheap_so(frame, prices, one, other, price):
    """Whether some PLAN that is let and costs at most price leads there."""
    need_answer(frame, one, other)
    return can_come(frame, prices, one, other) and cheapest(frame, prices, one, other) <= price


def _lot_so(frame, one, other, lot, many):
    """Whether some PLAN that leads there has at most many DEEDS of jacks of lot."""
    return lot_fewest(frame, one, other, lot) <= many


def _fits_so(frame, goal):
    """Whether some STAND fits goal."""
    return can_fit(frame, goal)


def _move_so(frame, one, goal, jack):
    """Whether jack moves in each PLAN from one to a STAND that fits goal."""
    need_jack(frame, jack)
    return jack in must_move(frame, one, goal)


_SO = {
    "two": _two_so, "come": _come_so, "fewest": _fewest_so, "cheap": _cheap_so, "lot": _lot_so, "fits": _fits_so,
    "move": _move_so,
}


def is_so(claim):
    """Whether claim is so."""
    held = _claimed(claim)
    asked = _SO[held[0]]
    parts = held[1:]
    return asked(*parts)


def _two_paper(frame):
    """COLOURS, or an ODD RING."""
    return colours(frame) if is_two_coloured(frame) else odd_ring(frame)


def _come_paper(frame, prices, one, other):
    """A PLAN that is let, or a BAR."""
    if can_come(frame, prices, one, other):
        return cheap_plan(frame, prices, one, other)
    return bar(frame, prices, one, other)


def _fewest_paper(frame, one, other, many):
    """A PLAN of at most many DEEDS, or why there is none: COUPLES, a shortest PLAN where there is an ODD ROUND."""
    if _fewest_so(frame, one, other, many):
        return shortest_plan(frame, one, other)
    try:
        return greatest_couples(frame, one, other)
    except CanNot:
        return shortest_plan(frame, one, other)


def _cheap_paper(frame, prices, one, other, price):
    """A PLAN of at most this price, or why there is none: a BAR, LOADS, a cheapest PLAN where there is an ODD ROUND."""
    so = _cheap_so(frame, prices, one, other, price)
    if not can_come(frame, prices, one, other):
        return bar(frame, prices, one, other)
    if so:
        return cheap_plan(frame, prices, one, other)
    try:
        return least_loads(frame, one, other, prices)
    except CanNot:
        return cheap_plan(frame, prices, one, other)


def _lot_paper(frame, one, other, lot, many):
    """A PLAN with at most many DEEDS of lot, or why there is none: COUPLES, such a PLAN where there is an ODD ROUND."""
    if _lot_so(frame, one, other, lot, many):
        return lot_plan(frame, one, other, lot)
    try:
        return own_paper(frame, one, other, lot)
    except CanNot:
        return lot_plan(frame, one, other, lot)


def _fits_paper(frame, goal):
    """A STAND that fits goal, or a GOAL BAR."""
    if can_fit(frame, goal):
        return nearest_stand(frame, level_stand(frame, 0), goal)
    return goal_bar(frame, goal)


def _move_paper(frame, one, goal, jack):
    """A REASON of jack, or a PLAN to a STAND that fits goal without a DEED of it."""
    if _move_so(frame, one, goal, jack):
        return why_moved(frame, one, goal, jack)
    return plan_to_goal(frame, one, goal)


_PAPERS = {
    "two": _two_paper, "come": _come_paper, "fewest": _fewest_paper, "cheap": _cheap_paper, "lot": _lot_paper,
    "fits": _fits_paper, "move": _move_paper,
}


def paper(claim):
    """A PAPER of claim: what shows that it is so, or that it is not."""
    held = _claimed(claim)
    told = _PAPERS[held[0]]
    parts = held[1:]
    return told(*parts)


def _two_shown(thing, frame):
    """What thing shows of a CLAIM that frame is two-coloured."""
    if is_colours(frame, thing):
        return True
    return False if is_odd_ring(frame, thing) else None


def _come_shown(thing, frame, prices, one, other):
    """What thing shows of a CLAIM that some PLAN that is let leads there."""
    if is_plan(frame, one, other, thing):
        return None if plan_price(frame, prices, one, thing) is None else True
    return False if is_bar(frame, prices, one, other, thing) else None


def _fewest_shown(thing, frame, one, other, many):
    """What thing shows of a CLAIM that some PLAN of at most many DEEDS leads there."""
    least = fewest(frame, one, other)
    if is_plan(frame, one, other, thing):
        if len(thing) <= many:
            return True
        return False if len(thing) == least else None
    if not are_couples(frame, one, other, thing):
        return None
    return False if apart_by(one, other) - len(all_pairs(one, other)) + len(thing) > many else None


def _all_stops(prices, one, other):
    """What all stops together cost that are PASSABLE or other's heights of jacks that move, and not forbidden."""
    goals = [(jack, height) for jack, height in enumerate(other) if height != one[jack]]
    costs = [stop_price(prices, stop) for stop in goals + all_pairs(one, other)]
    return sum([cost for cost in costs if cost is not None])


def _cheap_shown(thing, frame, prices, one, other, price):
    """What thing shows of a CLAIM that some PLAN that is let and costs at most price leads there."""
    need_answer(frame, one, other)
    if is_plan(frame, one, other, thing):
        paid = plan_price(frame, prices, one, thing)
        if paid is None or paid <= price:
            return None if paid is None else True
        return False if paid == cheapest(frame, prices, one, other) else None
    if is_bar(frame, prices, one, other, thing):
        return False
    if not is_loads(frame, one, other, prices, thing):
        return None
    return False if _all_stops(prices, one, other) - loads_sum(frame, one, other, prices, thing) > price else None


def _lot_shown(thing, frame, one, other, lot, many):
    """What thing shows of a CLAIM that some PLAN that leads there has at most many DEEDS of jacks of lot."""
    least = lot_fewest(frame, one, other, lot)
    if is_plan(frame, one, other, thing):
        if _of_lot(thing, lot) <= many:
            return True
        return False if _of_lot(thing, lot) == least else None
    if not are_couples(frame, one, other, thing) or not all([_of_lot(couple, lot) == 2 for couple in thing]):
        return None
    size = sum([abs(one[jack] - other[jack]) for jack in lot])
    return False if size - _of_lot(all_pairs(one, other), lot) + len(thing) > many else None


def _fits_shown(thing, frame, goal):
    """What thing shows of a CLAIM that some STAND fits goal."""
    # A GOAL BAR may be a STAND, too: of other heights than those of goal.
    if is_stand(frame, thing) and fits(thing, goal):
        return True
    return False if is_goal_bar(frame, goal, thing) else None


def _move_shown(thing, frame, one, goal, jack):
    """What thing shows of a CLAIM that jack moves in each PLAN from one to a STAND that fits goal."""
    if is_why_moved(frame, one, goal, jack, thing):
        return True
    if not can_walk(frame, one, thing) or not fits(comes_to(frame, one, thing), goal):
        return None
    return False if _of_lot(thing, (jack,)) == 0 else None


_SHOWN = {
    "two": _two_shown, "come": _come_shown, "fewest": _fewest_shown, "cheap": _cheap_shown, "lot": _lot_shown,
    "fits": _fits_shown, "move": _move_shown,
}


def shows(claim, thing):
    """True if thing is a PAPER of claim and that is so, False if it is one and that is not, None if it is none."""
    held = _claimed(claim)
    told = _SHOWN[held[0]]
    parts = held[1:]
    return told(thing, *parts)


def is_paper(claim, thing):
    """Whether thing is a PAPER of claim."""
    return shows(claim, thing) is not None


def not_so(claims):
    """The set of the numbers of those of claims that are not so."""
    return tuple([number for number, claim in enumerate(claims) if not is_so(claim)])


def words_so(claims):
    """The set of the words of which there is some CLAIM among claims, and all are so."""
    found = {}
    for claim in claims:
        so = is_so(claim)
        found[claim[0]] = so and found.get(claim[0], True)
    return tuple(sorted([word for word in found if found[word]]))
