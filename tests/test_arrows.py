"""Promise [17]: moves, arrows and orders: which deed comes ahead of which; and of [3] TooMany for them."""

import itertools

from evenlifts import arrows as file_of_arrows, errors
from evenlifts.arrows import (
    arrows, can_come_first, how_many_orders, is_led_to, is_order, led_to, moves, must_come_ahead, order_at,
    order_number, order_of_plan, plan_of_order,
)
from evenlifts.passings import filled_up
from evenlifts.plans import is_plan_of, is_straight, passed_by, plan_of
from making import (
    Case, FLOOR, HOUSE, Maker, NO_THINGS, WIDE, WIDE_TWO, doable, full, listed, put, ring, row, some_frames, walk,
)
from slowly import made, slow_passings

EXAMPLES = r'''
>>> hoop, row, flat = (3, ((0, 1), (0, 2), (1, 2))), (3, ((0, 1), (1, 2))), (0, 0, 0)
>>> pair, low, high, gone = (2, ((0, 1),)), (0, 0), (3, 3), ((0, 1),)
>>> moves(pair, low, high, gone)
((0, 0, 2), (0, 2, 3), (1, 0, 1), (1, 1, 2), (1, 2, 3))
>>> arrows(pair, low, high, gone)[:3], len(arrows(pair, low, high, gone)), can_come_first(pair, low, high, gone), can_come_first(pair, low, high, ())
((((0, 0, 2), (0, 2, 3)), ((0, 0, 2), (1, 1, 2)), ((0, 0, 2), (1, 2, 3))), 8, ((1, 0, 1),), ((0, 0, 1), (1, 0, 1)))
>>> must_come_ahead(pair, low, high, gone, (0, 0, 2)), must_come_ahead(pair, low, high, gone, (1, 2, 3))
(((1, 0, 1),), ((0, 0, 2), (1, 0, 1), (1, 1, 2)))
>>> [how_many_orders(pair, low, high, own) for own in (gone, (), ((0, 1), (1, 2)))], how_many_orders(hoop, flat, (2, 2, 2), ()), how_many_orders(hoop, flat, (2, 2, 2), ((1, 1),))
([2, 8, 1], 36, 4)
>>> first, last = order_at(pair, low, high, gone, 0), order_at(pair, low, high, gone, 1)
>>> first, last[3:], order_number(pair, low, high, gone, last)
(((1, 0, 1), (0, 0, 2), (1, 1, 2), (0, 2, 3), (1, 2, 3)), ((1, 2, 3), (0, 2, 3)), 1)
>>> plan_of_order(pair, low, high, gone, first), order_of_plan(pair, low, high, ((1, 1), (0, 2), (1, 2), (0, 3), (1, 3))) == (gone, first)
(((1, 1), (0, 2), (1, 2), (0, 3), (1, 3)), True)
>>> is_order(pair, low, high, gone, last), is_order(pair, low, high, gone, first[::-1]), is_order(pair, low, high, gone, list(first)), led_to(pair, low, high, gone, first, last) == (first, last)
(True, False, False, True)
>>> arrows(row, (2, 1, 0), (0, 1, 2), ()), how_many_orders(row, (2, 1, 0), (0, 1, 2), ())
((((0, 2, 1), (0, 1, 0)), ((2, 0, 1), (2, 1, 2))), 6)
>>> order_at(pair, low, high, gone, 2)
raises CanNot()
>>> order_of_plan(pair, low, high, ((1, 2), (0, 3)))
raises CanNot()
>>> moves(pair, low, high, ((0, 1), (1, 1)))
raises Unfit()
'''

PAIR, LOW, HIGH, GONE, FAR = row(2), (0, 0), (3, 3), ((0, 1),), (300, 300)
FIRST = ((1, 0, 1), (0, 0, 2), (1, 1, 2), (0, 2, 3), (1, 2, 3))
LAST = ((1, 0, 1), (0, 0, 2), (1, 1, 2), (1, 2, 3), (0, 2, 3))
NO_PASSINGS = (None, 0, "a", (0, 1), ((0, 1), (0, 2)), ((0, 1), (1, 1)), ((1, 2), (0, 1)), ((0, 1), (0, 1)), ((0, 0),),
               ((0, True),), ((0, 1, 2),), ((2, 1),), ((0, 1), None), (((0, 1),),))
# What are no orders of GONE.
NO_ORDERS = (
    None, 0, "a", (), FIRST[:4], FIRST[1:], FIRST[::-1], FIRST + FIRST[:1], FIRST[:1] * 5, FIRST[:4] + (None,), (FIRST,),
    FIRST[:4] + ((1, 2),), FIRST[:4] + ((1, 2, 3, 0),), ((1, 0, 2),) + FIRST[1:], ((True, 0, 1),) + FIRST[1:],
    ((1, False, 1),) + FIRST[1:], ((1, 0, True),) + FIRST[1:], FIRST[1:2] + FIRST[:1] + FIRST[2:],
    FIRST[:1] + FIRST[2:3] + FIRST[1:2] + FIRST[3:], ((0, 0, 1), (1, 0, 1), (0, 1, 2), (1, 1, 2), (0, 2, 3)),
    ((-1, 0, 1),) + FIRST[1:], ((1, 0, 1), (0, 0, 2), (1, 1, 3), (0, 2, 3), (1, 2, 3)),
)


def slow_moves(one, other, passing):
    """The moves of a passing: from each stop of a jack to its next one."""
    found = []
    for jack, (here, there) in enumerate(zip(one, other)):
        step = 1 if here < there else -1
        stops = [level for level in range(here, there + step, step) if (jack, level) not in passing]
        if here != there:
            found += [(jack, start, stop) for start, stop in zip(stops, stops[1:])]
    return found


def slow_arrows(frame, one, other, passing):
    """The arrows, by the words of the document, of all pairs of moves."""
    found = []
    for first, later in itertools.permutations(slow_moves(one, other, passing), 2):
        here, there = first[0], later[0]
        if here == there:
            if first[2] == later[1]:
                found.append((first, later))
        elif (min(here, there), max(here, there)) in frame[1]:
            if one[here] < other[here] and one[there] < other[there] and first[1] <= later[2] - 2:
                found.append((first, later))
            if one[here] > other[here] and one[there] > other[there] and first[1] >= later[2] + 2:
                found.append((first, later))
    return sorted(found)


def all_orders(frame, one, other, passing, most=5000):
    """All rows of moves that can be walked, by comparison; None if they are more than most."""
    rows = [((), one)]
    known = slow_moves(one, other, passing)
    for _ in known:
        behind = []
        for own, stand in rows:
            for move in known:
                jack, start, stop = move
                if stand[jack] == start and (jack, stop) in doable(frame, stand):
                    behind.append((own + (move,), put(stand, (jack, stop))))
        rows = behind
        if len(rows) > most:
            return None
    return sorted(own for own, stand in rows)


def passed_stands(seed, many, most_moves, most_orders=300, frames=None):
    """Frames, stands, passings with few enough moves, and all orders of these."""
    maker = Maker(seed)
    for frame, one, other in made(seed, many, 0, 9, -1, 3, frames):
        for _ in range(2):
            passing = maker.one_of(slow_passings(frame, one, other))
            if len(slow_moves(one, other, passing)) <= most_moves:
                known = all_orders(frame, one, other, passing, most_orders)
                if known is not None:
                    yield frame, one, other, passing, known


class Arrows(Case):

    def test_examples(self):
        self.examples(EXAMPLES, {**vars(file_of_arrows), **vars(errors)})

    def test_moves_and_arrows(self):
        maker = Maker(161)
        for frame, one, other in made(162, 4, 0, 16):
            for passing in (slow_passings(frame, one, other)[-1], maker.one_of(slow_passings(frame, one, other))):
                known = slow_moves(one, other, passing)
                self.assertEqual(self.tell(moves, frame, one, other, passing), tuple(sorted(known)))
                wanted = slow_arrows(frame, one, other, passing)
                self.assertEqual(self.tell(arrows, frame, one, other, passing), tuple(wanted))
                self.assertFalse(any((one[a[0]] < other[a[0]]) != (one[b[0]] < other[b[0]]) for a, b in wanted))
                begin = [move for move in known if not any(later == move for first, later in wanted)]
                self.assertEqual(self.tell(can_come_first, frame, one, other, passing), tuple(sorted(begin)))

    def test_what_must_come_ahead(self):
        for frame, one, other, passing, known in passed_stands(163, 3, 12):
            for move in slow_moves(one, other, passing):
                ahead = None
                for order in known:
                    now = set(order[:order.index(move)])
                    ahead = now if ahead is None else ahead & now
                self.assertEqual(self.tell(must_come_ahead, frame, one, other, passing, move), tuple(sorted(ahead)))
            begin = {order[0] for order in known if order}
            self.assertEqual(can_come_first(frame, one, other, passing), tuple(sorted(begin)))

    def test_orders_are_all_rows_that_can_be_walked(self):
        maker = Maker(164)
        for frame, one, other, passing, known in passed_stands(165, 3, 10):
            wanted = slow_arrows(frame, one, other, passing)
            self.assertGreater(len(known), 0)
            rows = known[:: len(known) // 6 + 1] + [tuple(maker.mixed(known[0])) for _ in range(6)]
            for at, order in enumerate(rows):
                ask = self.tell if at < 2 else (lambda function, *values: function(*values))
                fits = all(order.index(first) < order.index(later) for first, later in wanted)
                self.assertIs(fits, order in known)
                self.assertIs(ask(is_order, frame, one, other, passing, order), fits)
                if not fits:
                    self.refused(errors.Unfit, plan_of_order, frame, one, other, passing, order)
                    continue
                plan = ask(plan_of_order, frame, one, other, passing, order)
                self.assertEqual(plan, tuple((jack, stop) for jack, start, stop in order))
                self.assertIs(is_plan_of(frame, one, other, passing, plan), True)
                self.assertEqual(ask(order_of_plan, frame, one, other, plan), (passing, order))

    def test_all_rows_of_few_moves(self):
        for frame, one, other, passing, known in passed_stands(166, 3, 5):
            for order in itertools.permutations(slow_moves(one, other, passing)):
                self.assertIs(is_order(frame, one, other, passing, order), order in known)

    def test_straight_plans_are_those_of_the_orders(self):
        for frame, one, other, passing, known in passed_stands(167, 2, 9):
            plans = {plan_of_order(frame, one, other, passing, order) for order in known}
            self.assertEqual(len(plans), len(known))
            self.assertIn(plan_of(frame, one, other, passing), plans)
            for plan in plans:
                self.assertIs(is_straight(frame, one, other, plan), True)
                self.assertEqual(passed_by(frame, one, other, plan), passing)

    def test_orders_counted_and_numbered(self):
        for frame, one, other, passing, known in passed_stands(168, 3, 12):
            self.assertEqual(self.tell(how_many_orders, frame, one, other, passing), len(known))
            for number in range(0, len(known), len(known) // 8 + 1):
                self.assertEqual(self.tell(order_at, frame, one, other, passing, number), known[number])
                self.assertEqual(self.tell(order_number, frame, one, other, passing, known[number]), number)
            self.assertEqual(order_at(frame, one, other, passing, len(known) - 1), known[-1])
            for number in (-1, len(known), -len(known), 10 ** 30, -10 ** 30):
                self.refused(errors.CanNot, order_at, frame, one, other, passing, number)
            for wrong in (None, True, False, "0", (), (0,)):
                self.refused(errors.Unfit, order_at, frame, one, other, passing, wrong)

    def test_exchanges_beside_a_search_through_all_orders(self):
        maker = Maker(169)
        for frame, one, other, passing, known in passed_stands(170, 2, 9, 120):
            order, goal = maker.one_of(known), maker.one_of(known)
            steps = {order: 0}
            edge = [order]
            for here in edge:
                for at in range(len(here) - 1):
                    there = here[:at] + (here[at + 1], here[at]) + here[at + 2:]
                    if there in known and there not in steps:
                        steps[there] = steps[here] + 1
                        edge.append(there)
            self.assertEqual(len(steps), len(known))
            way = self.tell(led_to, frame, one, other, passing, order, goal)
            self.assertEqual(len(way), steps[goal] + 1)
            turned = [two for two in itertools.combinations(order, 2) if goal.index(two[0]) > goal.index(two[1])]
            self.assertEqual(len(turned), steps[goal])
            self.check_way(known, way, order, goal)
            self.assertIs(self.tell(is_led_to, frame, one, other, passing, order, goal, way), True)
            self.assertIs(is_led_to(frame, one, other, passing, goal, order, way[::-1]), True)
            self.check_no_ways(frame, one, other, passing, order, goal, way)

    def check_way(self, known, way, order, goal):
        self.assertEqual((way[0], way[-1]), (order, goal))
        for here, there in zip(way, way[1:]):
            self.assertIn(there, known)
            places = [at for at in range(len(here)) if here[at] != there[at]]
            self.assertEqual(places, [places[0], places[0] + 1])
            self.assertEqual((here[places[0]], here[places[1]]), (there[places[1]], there[places[0]]))

    def check_no_ways(self, frame, one, other, passing, order, goal, way):
        wrong = [way[1:], way[:-1], way + way[-1:], way[:1] + way, way + (way[0], way[-1]), list(way), listed(way), (way,)]
        wrong += [way[::-1]] if len(way) > 1 else []
        wrong += [way[:1] + way[2:3] + way[1:2] + way[3:]] if len(way) > 3 else []
        for thing in wrong:
            self.assertIs(is_led_to(frame, one, other, passing, order, goal, thing), False)

    def test_other_ways_as_short(self):
        # Two jacks without a beam: each way to turn two moves of each about is one.
        far = (4, ((0, 1), (2, 3)))
        one, other = (0, 1, 0, 1), (2, 1, 2, 1)
        order = ((0, 0, 1), (0, 1, 2), (2, 0, 1), (2, 1, 2))
        goal = order[2:] + order[:2]
        seen = 0
        rows = all_orders(far, one, other, ())
        for middle in itertools.permutations(rows, 3):
            thing = (order,) + middle + (goal,)
            fits = all(
                len([at for at in range(4) if here[at] != there[at]]) == 2
                and [at for at in range(3) if here[at:at + 2] == there[at:at + 2][::-1] and here[at] != there[at]] != []
                for here, there in zip(thing, thing[1:]))
            seen += fits
            self.assertIs(is_led_to(far, one, other, (), order, goal, thing), fits)
        self.assertGreater(seen, 1)
        self.assertEqual(len(led_to(far, one, other, (), order, goal)), 5)

    def test_plans_that_are_not_straight(self):
        for plan in (((0, -1), (0, 0)) + ((1, 1), (0, 1)), ((1, 1),), (), ((1, 2), (0, 3)), ((0, 1), (1, 1), (0, 2))):
            self.refused(errors.CanNot, order_of_plan, PAIR, LOW, (1, 1), plan)
        self.assertEqual(order_of_plan(PAIR, LOW, LOW, ()), ((), ()))
        self.refused(errors.CanNot, order_of_plan, PAIR, LOW, LOW, ((0, 1), (0, 0)))
        for plan in (None, 0, "a", (None,), (0, 1), ((2, 1),), ((-1, 1),), ((0, 1, 2),), ((0, "1"),), ((0, True),), ((False, 1),)):
            self.refused(errors.Unfit, order_of_plan, PAIR, LOW, HIGH, plan)
            self.refused(errors.Unfit, order_of_plan, PAIR, LOW, FAR, plan)
        for plan in ((), ((0, 5),), ((0, 1),)):
            self.refused(errors.TooMany, order_of_plan, PAIR, LOW, FAR, plan)

    def test_things_that_are_no_orders(self):
        wrong = NO_THINGS + NO_ORDERS + (list(FIRST), listed(FIRST), tuple(listed(own) for own in FIRST))
        self.none_of(lambda thing: is_order(PAIR, LOW, HIGH, GONE, thing), wrong)
        self.none_of(lambda thing: is_order(PAIR, LOW, HIGH, (), thing), wrong + (FIRST,))
        self.assertIs(is_order(PAIR, LOW, HIGH, GONE, FIRST), True)
        self.assertIs(is_order(PAIR, LOW, LOW, (), ()), True)
        self.none_of(lambda thing: is_order(PAIR, LOW, LOW, (), thing), [own for own in NO_THINGS if own != ()])

    def test_things_that_are_no_ways(self):
        wrong = NO_THINGS + (
            (), (FIRST,), (LAST,), (LAST, FIRST), [FIRST, LAST], (FIRST, LAST, LAST), (FIRST, FIRST), (FIRST, list(LAST)),
            (FIRST, listed(LAST)), (listed(FIRST), LAST), (FIRST, None), (None, LAST), FIRST, LAST, FIRST + LAST,
            (FIRST, LAST[:4]), (FIRST, LAST + LAST[:1]), (FIRST, LAST, FIRST, LAST), ((FIRST, LAST),),
            (FIRST, ((True, 0, 1),) + LAST[1:]), (((True, 0, 1),) + FIRST[1:], LAST), (FIRST, ((1, False, 1),) + LAST[1:]),
            (FIRST, ((1, 0, True),) + LAST[1:]), (FIRST[::-1], LAST),
        )
        self.none_of(lambda thing: is_led_to(PAIR, LOW, HIGH, GONE, FIRST, LAST, thing), wrong)
        self.assertIs(is_led_to(PAIR, LOW, HIGH, GONE, FIRST, LAST, (FIRST, LAST)), True)
        self.assertIs(is_led_to(PAIR, LOW, HIGH, GONE, FIRST, FIRST, (FIRST,)), True)
        self.none_of(lambda thing: is_led_to(PAIR, LOW, HIGH, GONE, FIRST, FIRST, thing),
                     NO_THINGS + ((), (FIRST, FIRST), (LAST,), FIRST, (((True, 0, 1),) + FIRST[1:],)))
        # In the middle of a way: truth values for numbers, and a row that is no order.
        one, other = (0, 1, 0, 1), (1, 1, 1, 1)
        far = (4, ((0, 1), (2, 3)))
        self.assertIs(is_led_to(far, one, other, (), ((0, 0, 1), (2, 0, 1)), ((2, 0, 1), (0, 0, 1)),
                                (((0, 0, 1), (2, 0, 1)), ((2, 0, 1), (0, 0, 1)))), True)
        line, high = row(4), (1, 1, 1, 1)
        known = all_orders(line, (0, 0, 0, 0), high, ())
        order, goal = known[0], known[-1]
        way = led_to(line, (0, 0, 0, 0), high, (), order, goal)
        self.assertEqual(len(way), 7)
        for at in range(1, 6):
            truths = way[:at] + (tuple((jack, False, True) for jack, _, _ in way[at]),) + way[at + 1:]
            self.assertIs(is_led_to(line, (0, 0, 0, 0), high, (), order, goal, truths), False)
            here = way[at]
            for wrong in (None, 5, "abcd", (), list(here), here[:-1], here + here[-1:], here[:1] * 4, way[0], way[-1],
                          here[:3] + (None,), here[:3] + ((3, 0),), here[1:] + here[:1], way[at - 1], way[at + 1]):
                thing = way[:at] + (wrong,) + way[at + 1:]
                self.assertIs(is_led_to(line, (0, 0, 0, 0), high, (), order, goal, thing), False)
            # Two neighbours that are not exchanged, but each put in the place of another one.
            for spot in range(3):
                for two in itertools.product(order, repeat=2):
                    row_told = way[at - 1][:spot] + two + way[at - 1][spot + 2:]
                    thing = way[:at] + (row_told,) + way[at + 1:]
                    fits = row_told == way[at] or all(
                        sorted(own) == sorted(order) and len([k for k in range(4) if own[k] != far[k]]) == 2
                        and any(own[k:k + 2] == far[k:k + 2][::-1] != far[k:k + 2] for k in range(3))
                        for own, far in ((row_told, way[at - 1]), (row_told, way[at + 1])))
                    self.assertIs(is_led_to(line, (0, 0, 0, 0), high, (), order, goal, thing), fits)

    def test_unfit_stands(self):
        for function in (moves, arrows, can_come_first, how_many_orders):
            self.unfit_stands(function, ())
        for function, more in (
            (must_come_ahead, (0, 0, 1)), (is_order, None), (plan_of_order, ()), (order_at, 0), (order_number, ()),
        ):
            self.unfit_stands(function, (), more)
        self.unfit_stands(order_of_plan, ())
        self.unfit_stands(led_to, (), (), ())
        self.unfit_stands(is_led_to, (), (), (), ())

    def test_unfit_passings(self):
        for wrong in NO_PASSINGS:
            for other in (HIGH, FAR):
                for function in (moves, arrows, can_come_first, how_many_orders):
                    self.refused(errors.Unfit, function, PAIR, LOW, other, wrong)
                for function, more in (
                    (must_come_ahead, (1, 0, 1)), (is_order, None), (is_order, FIRST), (plan_of_order, FIRST), (order_at, 0),
                    (order_number, FIRST),
                ):
                    self.refused(errors.Unfit, function, PAIR, LOW, other, wrong, more)
                self.refused(errors.Unfit, led_to, PAIR, LOW, other, wrong, FIRST, LAST)
                self.refused(errors.Unfit, is_led_to, PAIR, LOW, other, wrong, FIRST, LAST, None)

    def test_unfit_moves_and_orders(self):
        wrong = (None, 0, (), (0, 0), (0, 0, 1), (0, 1, 2), (0, 0, 3), (0, 3, 4), (1, 0, 2), (1, 3, 4), (2, 0, 1), (-1, 0, 1),
                 (1, 0, True), (True, 0, 1), (1, False, 1), (1, 0, 1, 2), (1, -1, 0), (1, 2, 1), (1, 1, 0), "101", ((1, 0, 1),))
        for move in wrong:
            self.refused(errors.Unfit, must_come_ahead, PAIR, LOW, HIGH, GONE, move)
            if move not in ((1, 3, 4), (0, 3, 4)):
                self.refused(errors.Unfit, must_come_ahead, PAIR, LOW, FAR, GONE, move)
        for jack in (0, 1):
            self.refused(errors.Unfit, must_come_ahead, PAIR, LOW, LOW, (), (jack, 0, 1))
        self.refused(errors.Unfit, must_come_ahead, PAIR, HIGH, LOW, (), (0, 0, 1))
        self.assertEqual(must_come_ahead(PAIR, HIGH, LOW, (), (0, 3, 2)), ())
        for order in NO_ORDERS:
            for other in (HIGH, FAR):
                self.refused(errors.Unfit, plan_of_order, PAIR, LOW, other, GONE, order)
                self.refused(errors.Unfit, order_number, PAIR, LOW, other, GONE, order)
                self.refused(errors.Unfit, led_to, PAIR, LOW, other, GONE, order, LAST)
                self.refused(errors.Unfit, led_to, PAIR, LOW, other, GONE, FIRST, order)
                for thing in (None, (FIRST, LAST)):
                    self.refused(errors.Unfit, is_led_to, PAIR, LOW, other, GONE, order, LAST, thing)
                    self.refused(errors.Unfit, is_led_to, PAIR, LOW, other, GONE, FIRST, order, thing)
        for number in (None, True, False, "1", (), (1,)):
            self.refused(errors.Unfit, order_at, PAIR, LOW, HIGH, GONE, number)
            self.refused(errors.Unfit, order_at, PAIR, LOW, FAR, GONE, number)

    def test_too_many_levels(self):
        for function in (moves, can_come_first):
            self.too_many_levels(function, lambda *told: (((0, 1),),))
        self.too_many_levels(arrows, lambda *told: ((),))
        self.too_many_levels(
            must_come_ahead, lambda frame, low, other: ((), (1, low[1], low[1] + (1 if low < other else -1))))
        self.too_many_levels(is_order, lambda *told: ((), None))
        self.too_many_levels(how_many_orders, lambda *told: ((),), False)
        self.too_many_levels(order_at, lambda *told: ((), 0), False)
        for other in ((240, 241), (-241, -240)):
            plan = plan_of(PAIR, LOW, (240, 240), ()) + ((1, 241),) if other[0] > 0 else tuple(
                (jack, -level) for level in range(1, 241) for jack in (0, 1)) + ((0, -241),)
            order, here = [], [0, 0]
            for jack, height in plan:
                order.append((jack, here[jack], height))
                here[jack] = height
            order = tuple(order)
            self.refused(errors.TooMany, plan_of_order, PAIR, LOW, other, (), order)
            self.refused(errors.TooMany, order_number, PAIR, LOW, other, (), order)
            self.refused(errors.TooMany, order_of_plan, PAIR, LOW, other, plan)
            self.refused(errors.TooMany, order_of_plan, PAIR, LOW, other, plan[:-1])
            self.refused(errors.TooMany, led_to, PAIR, LOW, other, (), order, order)
            self.refused(errors.TooMany, is_led_to, PAIR, LOW, other, (), order, order, (order,))
            self.refused(errors.Unfit, plan_of_order, PAIR, LOW, other, (), order[:-1])
            self.refused(errors.Unfit, led_to, PAIR, LOW, other, (), order, order[::-1])
        self.refused(errors.TooMany, moves, PAIR, LOW, (10 ** 6, 10 ** 6), ((0, 10 ** 5),))
        self.refused(errors.TooMany, must_come_ahead, PAIR, LOW, (10 ** 6, 10 ** 6), ((0, 7),), (0, 6, 8))
        self.refused(errors.Unfit, must_come_ahead, PAIR, LOW, (10 ** 6, 10 ** 6), ((0, 7),), (0, 7, 8))

    def test_too_many_moves(self):
        high = (7, 7)
        self.assertEqual(how_many_orders(PAIR, LOW, high, ()), 128)
        order = order_at(PAIR, LOW, high, (), 77)
        self.assertEqual(order_number(PAIR, LOW, high, (), order), 77)
        self.refused(errors.CanNot, order_at, PAIR, LOW, high, (), 128)
        for other in ((7, 8), (8, 8)):
            more = order + tuple((jack, 7, 8) for jack in (0, 1) if other[jack] == 8)
            self.assertIs(is_order(PAIR, LOW, other, (), more), True)
            self.refused(errors.TooMany, how_many_orders, PAIR, LOW, other, ())
            self.refused(errors.TooMany, order_number, PAIR, LOW, other, (), more)
            for number in (0, -1, 10 ** 9):
                self.refused(errors.TooMany, order_at, PAIR, LOW, other, (), number)
            self.refused(errors.Unfit, order_at, PAIR, LOW, other, (), None)
            self.refused(errors.Unfit, order_number, PAIR, LOW, other, (), order[1:])
        # It is the moves that count, not the levels.
        passing = filled_up(PAIR, LOW, (14, 14), ())
        self.assertEqual(len(passing), 13)
        self.refused(errors.TooMany, how_many_orders, PAIR, LOW, (14, 14), passing)
        passing = filled_up(PAIR, LOW, (13, 13), ())
        self.assertEqual((len(passing), how_many_orders(PAIR, LOW, (13, 13), passing)), (12, 1))
        for frame in (FLOOR, WIDE, WIDE_TWO):
            low, high = (0,) * 12, (1,) * 12
            self.assertEqual(how_many_orders(frame, low, high, ()), 479001600)
            order = self.tell(order_at, frame, low, high, (), 123456789)
            self.assertEqual(self.tell(order_number, frame, low, high, (), order), 123456789)
            self.assertEqual(order_at(frame, low, high, (), 479001599), tuple((jack, 0, 1) for jack in range(12))[::-1])
            self.refused(errors.CanNot, order_at, frame, low, high, (), 479001600)

    def test_no_bound_of_jacks(self):
        for frame in (ring(9), WIDE, full(9)):
            low, high = (0,) * frame[0], (2,) * frame[0]
            passing = filled_up(frame, low, high, ())
            told = moves(frame, low, high, passing)
            self.assertEqual(len(told), 2 * frame[0] - len(passing))
            self.assertEqual(arrows(frame, low, high, passing), tuple(slow_arrows(frame, low, high, passing)))
            plan = plan_of(frame, low, high, passing)
            self.assertEqual(order_of_plan(frame, low, high, plan)[0], passing)

    def test_bounds(self):
        for frame in (WIDE, WIDE_TWO, FLOOR, row(12), full(8), HOUSE):
            n, step = frame[0], 480 // frame[0]
            for base in (10 ** 6 - 480 // n, -10 ** 6):
                one, other = (base,) * n, (base + step,) * n
                passing = filled_up(frame, one, other, ())
                plan = plan_of(frame, one, other, passing)
                self.assertEqual(order_of_plan(frame, one, other, plan)[0], passing)
                order = order_of_plan(frame, one, other, plan)[1]
                self.assertIs(is_order(frame, one, other, passing, order), True)
                self.assertEqual(plan_of_order(frame, one, other, passing, order), plan)
                told = moves(frame, one, other, passing)
                self.assertEqual(told, tuple(sorted(order)))
                rows = arrows(frame, one, other, passing)
                place = {move: at for at, move in enumerate(order)}
                self.assertTrue(all(place[first] < place[later] for first, later in rows))
                self.assertIn(order[0], can_come_first(frame, one, other, passing))
                last = must_come_ahead(frame, one, other, passing, order[-1])
                self.assertTrue(set(last) <= set(order))
                self.assertEqual(must_come_ahead(frame, one, other, passing, order[0]), ())
                self.assertEqual(led_to(frame, one, other, passing, order, order), (order,))
                self.refused(errors.TooMany, how_many_orders, frame, one, other, passing)

    def test_long_ways(self):
        far = (4, ((0, 1), (2, 3)))
        one, other = (0, 0, 0, 0), (30, 30, -30, -30)
        order = order_of_plan(far, one, other, plan_of(far, one, other, ()))[1]
        goal = tuple(own for own in order if own[0] > 1) + tuple(own for own in order if own[0] < 2)
        self.assertIs(is_order(far, one, other, (), goal), True)
        way = led_to(far, one, other, (), order, goal)
        turned = sum(1 for two in itertools.combinations(order, 2) if goal.index(two[0]) > goal.index(two[1]))
        self.assertEqual(len(way), turned + 1)
        self.assertGreater(turned, 1000)
        self.assertIs(is_led_to(far, one, other, (), order, goal, way), True)
        self.assertIs(is_led_to(far, one, other, (), order, goal, way[:9] + way[10:]), False)
