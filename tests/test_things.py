"""Promise [2]: a parameter called thing may be any value; whatever part of what is described is spoiled, it is none."""

import importlib
import inspect
import unittest

from evenlifts.judge import is_paper, is_so, shows
from making import listed
from test_interface import FILES

PAIR, PATH, ROW, HOOP = (2, ((0, 1),)), (3, ((0, 1), (1, 2))), (4, ((0, 1), (1, 2), (2, 3))), (3, ((0, 1), (0, 2), (1, 2)))
TWO, THREE, FOUR, UP = (0, 0), (0, 0, 0), (0, 0, 0, 0), (2, 2, 2, 2)
PRICES = ((1, ((-1, 2), (3, None))), (1, ((1, None),)), (1, ()), (3, ()))
SHUT = ((1, ()), (1, ((1, None),)), (1, ((1, None),)), (3, ((2, None),)))
EVEN = ((1, ()), (2, ()), (1, ()), (3, ()))
PLAN = ((0, 1), (2, 1), (1, 2), (3, 2), (0, 2), (2, 2))
ORDERS = (
    ((0, 0, 1), (1, 0, 1), (2, 0, 1)), ((0, 0, 1), (2, 0, 1), (1, 0, 1)), ((2, 0, 1), (0, 0, 1), (1, 0, 1)),
    ((2, 0, 1), (1, 0, 1), (0, 0, 1)),
)
LOADS = (((0, 1), (1, 1), 4), ((1, 1), (2, 1), 1), ((2, 1), (3, 1), 3), ((3, 1), (3, 1), 1))

# For each function what stands ahead of thing, and things of which it is true.
KNOWN = {
    "is_frame": ((), [PAIR, PATH, ROW, HOOP]),
    "is_colours": ((ROW,), [(0, 1, 0, 1)]),
    "is_odd_ring": ((HOOP,), [(0, 1, 2, 0), (2, 1, 0, 2)]),
    "is_heights": ((PATH,), [(0, 1, 7), THREE]),
    "is_stand": ((PATH,), [(0, 1, 1), THREE]),
    "is_between": ((PATH, THREE, (1, 1, 2)), [(0, 1, 1), THREE]),
    "is_deed": ((PATH,), [(0, 1), (1, -4)]),
    "is_plan": ((ROW, FOUR, UP), [PLAN, PLAN + ((0, 1), (0, 2))]),
    "is_passable": ((ROW, FOUR, UP), [(0, 1), (1, 1)]),
    "is_passing": ((ROW, FOUR, UP), [((0, 1), (2, 1)), ((1, 1),)]),
    "is_greatest": ((ROW, FOUR, UP), [((0, 1), (2, 1)), ((0, 1), (3, 1))]),
    "is_plan_of": ((ROW, FOUR, UP, ((1, 1), (3, 1))), [PLAN]),
    "is_straight": ((ROW, FOUR, UP), [PLAN]),
    "is_shortest": ((ROW, FOUR, UP), [PLAN]),
    "is_couples": ((ROW, FOUR, UP), [(((0, 1), (1, 1)), ((2, 1), (3, 1))), (((1, 1), (2, 1)),)]),
    "is_led_on": ((ROW, FOUR, UP, (((1, 1), (2, 1)),)), [((0, 1), (1, 1), (2, 1), (3, 1))]),
    "is_cover": ((ROW, FOUR, UP), [((1, 1), (2, 1)), ((0, 1), (1, 1), (2, 1))]),
    "is_odd_round": ((HOOP, THREE, UP[1:]), [((0, 1), (1, 1), (2, 1), (0, 1))]),
    "is_prices": ((ROW,), [PRICES, SHUT]),
    "is_bar": ((ROW, SHUT, FOUR, UP), [("beside", (1, 1), (2, 1)), ("goal", (3, 2))]),
    "is_cheap_plan": ((ROW, PRICES, FOUR, UP), [PLAN]),
    "is_heaviest": ((ROW, PRICES, FOUR, UP), [((1, 1), (3, 1))]),
    "is_heaviest_open": ((ROW, FOUR, UP, ((3, ()), (5, ()), (4, ()), (3, ()))), [((1, 1), (3, 1))]),
    "is_loads": ((ROW, FOUR, UP, ((3, ()), (5, ()), (4, ()), (3, ()))), [LOADS, LOADS[:3]]),
    "is_lot_plan": ((ROW, FOUR, UP, (0, 1)), [PLAN]),
    "is_own_paper": ((ROW, FOUR, UP, (0, 1)), [(((0, 1), (1, 1)),)]),
    "is_order": ((PATH, THREE, (1, 1, 1), ()), list(ORDERS)),
    "is_led_to": ((PATH, THREE, (1, 1, 1), (), ORDERS[0], ORDERS[3]), [ORDERS]),
    "is_visit_plan": ((ROW, FOUR, UP, ((1, 0, 1, 0),)), [PLAN]),
    "is_stand_to_stop": ((PATH, THREE, (2, 2, 2), 1, 1), [(0, 1, 0), (2, 1, 2)]),
    "is_stop_paper": (
        (PATH, THREE, (2, 2, 2), (0, 1, 0)),
        [(((0, 1), (2, 1)), (((0, 1), (1, 1)),), ((0, 1), (2, 1)), ()),
         (((0, 1), (2, 1)), (((1, 1), (2, 1)),), ((0, 1), (2, 1)), ())],
    ),
    "is_goal": ((PATH,), [((0, 1), (2, -4)), ((1, 7),)]),
    "is_goal_bar": ((PATH, ((0, 0), (2, 9))), [(0, 1, 2), (2, 1, 0)]),
    "is_why_moved": ((PATH, THREE, ((2, 3),), 0), [(2, 1, 0)]),
    "is_plan_to_goal": ((PATH, THREE, ((2, 3),)), [((2, 1), (0, 1), (1, 2), (2, 3))]),
    "is_slack_plan": ((ROW, 7, 3), [((0, 3), (2, 3), (1, 6), (3, 6), (0, 7), (2, 7), (1, 7), (3, 7))]),
    "is_saving_paper": ((HOOP, THREE, UP[1:], (0, 2)), [(((0, 1),), ((0, 1), (2, 1))), (((1, 1),), ((0, 1), (2, 1)))]),
    "is_round": ((PATH, THREE), [((0, 1), (2, 1)), ((1, -1),)]),
    "is_rounds": ((PATH, THREE, (2, 2, 2)), [(((0, 1), (2, 1)), ((1, 2),), ((0, 2), (2, 2)))]),
    "is_claim": ((), [
        ("two", HOOP), ("come", ROW, EVEN, FOUR, UP), ("fewest", ROW, FOUR, UP, 5), ("cheap", ROW, EVEN, FOUR, UP, 0),
        ("lot", ROW, FOUR, UP, (0, 2), 7), ("fits", ROW, ((0, 1), (3, -3))), ("move", ROW, FOUR, ((2, 3),), 1),
    ]),
    "is_paper": ((("fewest", ROW, FOUR, UP, 5),), [(((0, 1), (1, 1)), ((2, 1), (3, 1))), PLAN]),
    "shows": ((("cheap", ROW, PRICES, FOUR, UP, 8),), [PLAN]),
}
# Papers of one claim of each word and kind: spoiled, they show nothing.
PAPERS = {
    ("two", ROW): (0, 1, 0, 1), ("two", HOOP): (0, 1, 2, 0), ("come", ROW, PRICES, FOUR, UP): PLAN,
    ("come", ROW, SHUT, FOUR, UP): ("beside", (1, 1), (2, 1)), ("fewest", ROW, FOUR, UP, 6): PLAN,
    ("fewest", ROW, FOUR, UP, 5): (((0, 1), (1, 1)), ((2, 1), (3, 1))), ("cheap", ROW, PRICES, FOUR, UP, 8): PLAN,
    ("cheap", ROW, ((3, ()), (5, ()), (4, ()), (3, ())), FOUR, UP, 21): LOADS[:3],
    ("cheap", ROW, SHUT, FOUR, UP, 99): ("goal", (3, 2)), ("lot", ROW, FOUR, UP, (0, 1), 3): PLAN,
    ("lot", ROW, FOUR, UP, (0, 1), 2): (((0, 1), (1, 1)),), ("fits", PATH, ((2, 3),)): (1, 2, 3),
    ("fits", PATH, ((0, 0), (2, 9))): (0, 1, 2), ("move", PATH, THREE, ((2, 3),), 0): (2, 1, 0),
    ("move", PATH, THREE, ((2, 1),), 0): ((2, 1),),
}


def things_asked():
    """Each function of the interface with a parameter called thing, by its name."""
    found = {}
    for file, told in FILES.items():
        module = importlib.import_module("evenlifts." + file)
        for entry in told.split():
            function = getattr(module, entry.split("(")[0])
            if "thing" in inspect.signature(function).parameters:
                found[function.__name__] = function
    return found


def spoiled_part(part):
    """What is of another kind than part; or, a tuple, is longer by what is no part of anything."""
    found = [True, False, None, "a", "", "01", [], [0, 1], (part,), [part], ((None,),)]
    if isinstance(part, tuple):
        found += [listed(part), list(part), part + (None,), ("a",) + part, part + (True,), part + ([],), part + (((),),)]
    return found


def spoiled(thing):
    """thing, with one part of it at whatever depth spoiled, in each way."""
    for wrong in spoiled_part(thing):
        yield wrong
    if isinstance(thing, tuple):
        for at, part in enumerate(thing):
            for wrong in spoiled(part):
                yield thing[:at] + (wrong,) + thing[at + 1:]


class Things(unittest.TestCase):

    def test_all_functions_are_asked(self):
        self.assertEqual(set(things_asked()), set(KNOWN))

    def test_what_is_described(self):
        functions = things_asked()
        for name, (ahead, things) in KNOWN.items():
            for thing in things:
                self.assertIs(functions[name](*ahead, thing), True, (name, thing))

    def test_spoiled_parts(self):
        functions = things_asked()
        for name, (ahead, things) in KNOWN.items():
            for thing in things:
                for wrong in spoiled(thing):
                    if name != "is_prices" or not prices_yet(wrong):
                        self.assertIs(functions[name](*ahead, wrong), None if name == "shows" else False, (name, wrong))

    def test_spoiled_papers(self):
        for claim, thing in PAPERS.items():
            self.assertIs(shows(claim, thing), is_so(claim), claim)
            for wrong in spoiled(thing):
                self.assertIs(shows(claim, wrong), None, (claim, wrong))
                self.assertIs(is_paper(claim, wrong), False)
        self.assertEqual(len({(claim[0], is_so(claim)) for claim in PAPERS}), 14)

    def test_spoiled_parts_side_by_side(self):
        """Two parts of one tuple spoiled at once: neither is looked at as if it were sound."""
        junk = (None, True, "a", (), [], 7, (7,), ((7, 7),), ((None, None), 7))
        functions = things_asked()
        for name, (ahead, things) in KNOWN.items():
            for thing in things:
                for at in range(len(thing) - 1):
                    for wrong in junk:
                        for other in junk:
                            told = functions[name](*ahead, thing[:at] + (wrong, other) + thing[at + 2:])
                            self.assertIsInstance(told, (bool, type(None)) if name == "shows" else bool)


def prices_yet(thing):
    """Whether None for a price has made nothing wrong: it forbids a stop."""
    def is_part(part):
        return isinstance(part, tuple) and len(part) == 2 and type(part[0]) is int and isinstance(part[1], tuple) and all(
            isinstance(own, tuple) and len(own) == 2 and type(own[0]) is int and (own[1] is None or type(own[1]) is int)
            for own in part[1])
    return isinstance(thing, tuple) and len(thing) == 4 and all(is_part(part) for part in thing)
