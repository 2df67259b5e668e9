"""Promise [14]: prices of stops, forbidden ones, bars, the cheapest plans; and of [3] TooMany for them."""

from evenlifts import errors, prices as file_of_prices
from evenlifts.deeds import is_plan
from evenlifts.fewest import fewest, is_shortest
from evenlifts.plans import is_straight, passed_by
from evenlifts.prices import (
    bar, can_come, cheap_plan, cheapest, heaviest_passing, is_bar, is_cheap_plan, is_heaviest, is_prices, kept_to,
    plan_price, price_at, with_price,
)
from making import (
    Case, FLOOR, HOUSE, KITE, Maker, NO_THINGS, WIDE, WIDE_TWO, are_close, cost_of, full, listed, pairs_of, ring, row,
    some_frames, some_prices, walk,
)
from slowly import cheapest_ways, made, slow_passings

EXAMPLES = r'''
>>> row, flat, up = (4, ((0, 1), (1, 2), (2, 3))), (0, 0, 0, 0), (2, 2, 2, 2)
>>> even, prices = ((1, ()),) * 4, ((1, ()), (1, ((1, None),)), (1, ()), (3, ()))
>>> is_prices(row, prices), price_at(prices, 1, 1), price_at(prices, 3, 7), with_price(prices, 1, 2, 0)[1]
(True, None, 3, (1, ((1, None), (2, 0))))
>>> plan = ((0, 1), (2, 1), (1, 2), (3, 2), (0, 2), (2, 2))
>>> plan_price(row, prices, flat, plan), plan_price(row, even, flat, plan), plan_price(row, prices, flat, ((1, 1),))
(8, 6, None)
>>> cheapest(row, even, flat, up), cheapest(row, prices, flat, up), is_cheap_plan(row, prices, flat, up, plan), is_cheap_plan(row, prices, flat, up, plan + plan)
(6, 8, True, False)
>>> is_cheap_plan(row, prices, flat, up, cheap_plan(row, prices, flat, up)), is_heaviest(row, prices, flat, up, heaviest_passing(row, prices, flat, up))
(True, True)
>>> [is_heaviest(row, prices, flat, up, own) for own in (((1, 1), (3, 1)), ((1, 1),), ((0, 1), (3, 1)))]
[True, False, False]
>>> shut, ended = with_price(prices, 2, 1, None), with_price(prices, 0, 2, None)
>>> [can_come(row, own, flat, up) for own in (prices, shut, ended)], bar(row, shut, flat, up), bar(row, ended, flat, up)
([True, False, False], ('beside', (1, 1), (2, 1)), ('goal', (0, 2)))
>>> [kept_to(row, prices, flat, up, own, 1) for own in (0, 1, 2, 3)], kept_to(row, even, flat, up, 3, 1)
([None, 1, None, 0], 1)
>>> cheapest(row, shut, flat, up)
raises CanNot()
>>> kept_to(row, prices, flat, up, 1, 2)
raises CanNot()
'''

ROW, FLAT, UP, FAR = row(4), (0, 0, 0, 0), (2, 2, 2, 2), (1000, 1000, 1000, 1000)
EVEN = ((1, ()),) * 4
PRICES = ((1, ()), (1, ((1, None),)), (1, ()), (3, ()))
SHUT = ((1, ()), (1, ((1, None),)), (1, ((1, None),)), (3, ()))
ENDED = ((1, ((2, None),)), (1, ((1, None),)), (1, ()), (3, ()))
PLAN = ((0, 1), (2, 1), (1, 2), (3, 2), (0, 2), (2, 2))
SMALL = [frame for frame in some_frames() if frame[0] <= 5]


def cost_of_all(prices, plan):
    costs = [cost_of(prices, stop) for stop in plan]
    return None if None in costs else sum(costs)


def slow_cheapest(frame, prices, one, other, beyond=2):
    """The price of a cheapest way by a search over all stands not far off; None if there is none."""
    low, high = min(one + other) - beyond, max(one + other) + beyond
    return cheapest_ways(frame, one, low, high, lambda stop: cost_of(prices, stop)).get(other)


def slow_bars(frame, prices, one, other):
    """All bars, as the document says it."""
    pairs = pairs_of(one, other)
    shut = [pair for pair in pairs if cost_of(prices, pair) is None]
    goals = [stop for stop in enumerate(other) if one[stop[0]] != stop[1] and cost_of(prices, stop) is None]
    beside = [("beside", near, far) for near in shut for far in shut if near < far and are_close(frame, near, far)]
    return [("goal", stop) for stop in goals] + beside


def slow_heaviest(frame, prices, one, other):
    """All heaviest passings, from all passings."""
    shut = {pair for pair in pairs_of(one, other) if cost_of(prices, pair) is None}
    known = [own for own in slow_passings(frame, one, other) if shut <= set(own)]
    weights = [sum(cost_of(prices, pair) for pair in own if pair not in shut) for own in known]
    return [own for own, weight in zip(known, weights) if weight == max(weights)]


def priced_stands(seed, many, most=12, frames=SMALL, barred=2):
    """Frames, prices and two stands of each."""
    maker = Maker(seed)
    for frame, one, other in made(seed, many, 0, most, -1, 3, frames):
        yield frame, some_prices(maker, frame[0], -2, 4, barred), one, other


class Prices(Case):

    def test_examples(self):
        self.examples(EXAMPLES, {**vars(file_of_prices), **vars(errors)})

    def test_is_prices(self):
        maker = Maker(101)
        for frame in some_frames() + [WIDE]:
            for barred in (0, 3, 10):
                told = some_prices(maker, frame[0], -5, 5, barred)
                self.assertIs(self.tell(is_prices, frame, told), True)
                for wrong in (told[1:], told + told[:1], list(told), listed(told), (told,), told[0]):
                    self.assertIs(is_prices(frame, wrong), False)
        self.assertIs(is_prices(row(2), ((1, ()), (10 ** 40, ((-10 ** 40, 0), (10 ** 40, None))))), True)
        part = (1, ())
        wrong = (
            (0, ()), (-1, ()), (True, ()), (None, ()), ("1", ()), (1, []), (1, None), (1,), (1, (), ()), [1, ()], 1, None,
            (1, ((0, 1), (0, 2))), (1, ((0, 1), (0, 1))), (1, ((1, 1), (0, 1))), (1, ((0, -1),)), (1, ((0, True),)),
            (1, ((0, False),)), (1, ((True, 1),)), (1, ((0, "1"),)), (1, ((0, ()),)), (1, ((0,),)), (1, ((0, 1, 2),)),
            (1, ([0, 1],)), (1, (None,)), (1, (0, 1)), (1, ((None, 1),)), (1, (((0, 1),),)), (1, "a"), (1, ((0, [1]),)),
            (1, ((0, None), (0, 5))), ((), 1), (1, ((0, (1,)),)),
        )
        for own in wrong:
            for told in ((own, part), (part, own), (own, own)):
                self.assertIs(is_prices(row(2), told), False, told)
        self.assertIs(is_prices(row(2), (part, (1, ((0, None), (1, 0))))), True)
        self.none_of(lambda thing: is_prices(row(2), thing))
        self.none_of(lambda thing: is_prices(row(2), thing), ((), ((),) * 2, part, (part,), (part,) * 3))

    def test_price_at(self):
        maker = Maker(102)
        for _ in range(20):
            told = some_prices(maker, 4, -3, 3, 3)
            for jack in range(4):
                for level in range(-5, 6):
                    self.assertEqual(self.tell(price_at, told, jack, level), cost_of(told, (jack, level)))
            for jack in (-1, 4, 10 ** 20):
                self.refused(errors.NoJack, price_at, told, jack, 0, jack=jack)

    def test_with_price(self):
        maker = Maker(103)
        for _ in range(12):
            told = some_prices(maker, 3, -3, 3, 3)
            for jack in range(3):
                for level in (-10 ** 6, -4, -2, 0, 1, 3, 9):
                    price = maker.one_of((None, 0, 1, told[jack][0], 10 ** 6))
                    more = self.tell(with_price, told, jack, level, price)
                    self.assertIs(is_prices(row(3), more), True)
                    wanted = {**dict(told[jack][1]), level: price}
                    self.assertEqual(more[jack], (told[jack][0], tuple(sorted(wanted.items()))))
                    self.assertEqual([more[own] for own in range(3) if own != jack],
                                     [told[own] for own in range(3) if own != jack])
            for jack in (-1, 3, 10 ** 20):
                self.refused(errors.NoJack, with_price, told, jack, 0, 1, jack=jack)
        self.assertEqual(with_price(EVEN, 2, 5, 1)[2], (1, ((5, 1),)))

    def test_plan_price(self):
        maker = Maker(104)
        for frame in some_frames() + [WIDE]:
            for many in (0, 4, 12):
                one = maker.stand(frame, 0, 2)
                plan = maker.plan(frame, one, many, -1, 3)
                for barred in (0, 1, 5):
                    told = some_prices(maker, frame[0], -2, 4, barred)
                    self.assertEqual(self.tell(plan_price, frame, told, one, plan), cost_of_all(told, plan))
                self.assertEqual(plan_price(frame, ((1, ()),) * frame[0], one, plan), len(plan))
        for plan in (((0, 2),), ((0, 0),), ((1, 1), (0, 2), (0, 2)), ((4, 1),), ((-1, 1),)):
            self.refused(errors.Unfit, plan_price, ROW, PRICES, FLAT, plan)

    def test_a_plan_that_is_let_or_a_bar(self):
        come, barred = 0, 0
        for frame, told, one, other in priced_stands(105, 8):
            known = slow_bars(frame, told, one, other)
            least = slow_cheapest(frame, told, one, other)
            self.assertEqual(least is None, known != [])
            self.assertIs(self.tell(can_come, frame, told, one, other), known == [])
            if known:
                barred += 1
                self.assertIn(self.tell(bar, frame, told, one, other), known)
                for function in (cheapest, cheap_plan, heaviest_passing):
                    self.refused(errors.CanNot, function, frame, told, one, other)
                self.assertIs(is_heaviest(frame, told, one, other, ()), False)
                self.assertIs(is_cheap_plan(frame, told, one, other, ()), False)
            else:
                come += 1
                self.refused(errors.CanNot, bar, frame, told, one, other)
            stops = pairs_of(one, other) + list(enumerate(other)) + list(enumerate(one))
            for near in stops:
                self.assertIs(is_bar(frame, told, one, other, ("goal", near)), ("goal", near) in known)
                for far in stops:
                    thing = ("beside", near, far)
                    self.assertIs(is_bar(frame, told, one, other, thing), thing in known)
        self.assertGreater(min(come, barred), 20)

    def test_cheapest_plans(self):
        for frame, told, one, other in priced_stands(106, 8, barred=1):
            if slow_bars(frame, told, one, other):
                continue
            least = slow_cheapest(frame, told, one, other)
            self.assertEqual(self.tell(cheapest, frame, told, one, other), least)
            plan = self.tell(cheap_plan, frame, told, one, other)
            self.assertEqual(walk(frame, one, plan)[-1], other)
            self.assertEqual(cost_of_all(told, plan), least)
            self.assertIs(self.tell(is_cheap_plan, frame, told, one, other, plan), True)
            known = slow_heaviest(frame, told, one, other)
            passing = self.tell(heaviest_passing, frame, told, one, other)
            self.assertIn(passing, known)
            stops = [stop for stop in enumerate(other) if stop[1] != one[stop[0]]]
            left = [pair for pair in pairs_of(one, other) if pair not in passing]
            self.assertEqual(cost_of_all(told, stops + left), least)
            every = slow_passings(frame, one, other)
            for own in every[:: len(every) // 15 + 1] + known[:3]:
                self.assertIs(self.tell(is_heaviest, frame, told, one, other, own), own in known)
            if is_straight(frame, one, other, plan):
                self.assertIs(is_heaviest(frame, told, one, other, passed_by(frame, one, other, plan)), True)

    def test_plans_that_are_not_straight_can_be_cheapest(self):
        # Stops that cost nothing make a way round as cheap.
        free = ((1, ((-1, 0), (0, 0))),) * 4
        straight = cheap_plan(ROW, free, FLAT, UP)
        self.assertIs(is_cheap_plan(ROW, free, FLAT, UP, ((0, -1), (0, 0)) + straight), True)
        self.assertIs(is_cheap_plan(ROW, free, FLAT, FLAT, ((0, -1), (0, 0))), True)
        self.assertIs(is_cheap_plan(ROW, EVEN, FLAT, FLAT, ((0, -1), (0, 0))), False)
        self.assertIs(is_cheap_plan(ROW, EVEN, FLAT, UP, ((0, -1), (0, 0)) + straight), False)
        # One that has a forbidden stop is none, whatever it costs else.
        low = ((1, ((-1, None), (0, 0))),) + free[1:]
        self.assertIs(is_cheap_plan(ROW, low, FLAT, UP, ((0, -1), (0, 0)) + straight), False)

    def test_even_prices_ask_for_shortest_plans(self):
        for frame, one, other in made(107, 4, 0, 16):
            even = ((1, ()),) * frame[0]
            self.assertEqual(cheapest(frame, even, one, other), fewest(frame, one, other))
            plan = cheap_plan(frame, even, one, other)
            self.assertIs(is_shortest(frame, one, other, plan), True)
            threes = ((3, ()),) * frame[0]
            self.assertEqual(cheapest(frame, threes, one, other), 3 * fewest(frame, one, other))
            for wrong in (plan[1:], plan + plan, listed(plan)):
                self.assertIs(is_cheap_plan(frame, even, one, other, wrong), wrong == plan)

    def test_kept_to(self):
        for frame, told, one, other in priced_stands(108, 4, 9, barred=1):
            for jack in range(frame[0]):
                for level in range(min(one[jack], other[jack]) - 1, max(one[jack], other[jack]) + 2):
                    self.check_kept_to(frame, told, one, other, (jack, level))

    def check_kept_to(self, frame, told, one, other, pair):
        def at_price(price):
            return tuple(
                (even, tuple(sorted({**dict(own), pair[1]: price}.items()))) if jack == pair[0] else (even, own)
                for jack, (even, own) in enumerate(told)
            )

        if pair not in pairs_of(one, other) or slow_bars(frame, at_price(0), one, other):
            self.refused(errors.CanNot, kept_to, frame, told, one, other, *pair)
            return
        self.assertEqual(slow_cheapest(frame, at_price(0), one, other) is None, False)
        wanted = None
        if not slow_bars(frame, at_price(None), one, other):
            # The greatest price at which some heaviest passing does not have the pair.
            wanted = max(price for price in range(0, 40) if any(
                pair not in own for own in slow_heaviest(frame, at_price(price), one, other)))
            self.assertLess(wanted, 39)
        self.assertEqual(self.tell(kept_to, frame, told, one, other, *pair), wanted)

    def test_kept_to_whatever_the_stop_costs_now(self):
        for price in (None, 0, 1, 2, 10 ** 6):
            told = with_price(PRICES, 3, 1, price)
            self.assertEqual(kept_to(ROW, told, FLAT, UP, 3, 1), 0)
            self.assertIsNone(kept_to(ROW, told, FLAT, UP, 0, 1))
        # Free, jack 1 need not be passed: so it can be asked though now it is beside another shut one.
        self.assertIs(can_come(ROW, SHUT, FLAT, UP), False)
        self.assertEqual(kept_to(ROW, SHUT, FLAT, UP, 1, 1), None)
        self.refused(errors.CanNot, kept_to, ROW, SHUT, FLAT, UP, 3, 1)
        self.refused(errors.CanNot, kept_to, ROW, ENDED, FLAT, UP, 3, 1)

    def test_things_that_are_no_bars(self):
        self.assertIs(is_bar(ROW, SHUT, FLAT, UP, ("beside", (1, 1), (2, 1))), True)
        wrong = NO_THINGS + (
            (), ("beside",), ("goal",), ("beside", (1, 1)), ("beside", (2, 1), (1, 1)), ("beside", (1, 1), (2, 1), (2, 1)),
            ["beside", (1, 1), (2, 1)], ("beside", [1, 1], [2, 1]), ("beside", (True, 1), (2, 1)), ("goal", (1, 1)),
            ("beside", (1, True), (2, True)), ("beside", ((1, 1), (2, 1))), ("Beside", (1, 1), (2, 1)), ((1, 1), (2, 1)),
            (None, (1, 1), (2, 1)), ("goal", (1, 1), (2, 1)), ("beside", (0, 1), (1, 1)), ("beside", (1, 1, 1), (2, 1)),
            ("beside", None, None), (("beside", (1, 1), (2, 1)),), "beside", ("beside", "11", "21"),
        )
        self.none_of(lambda thing: is_bar(ROW, SHUT, FLAT, UP, thing), wrong)
        self.none_of(lambda thing: is_bar(ROW, EVEN, FLAT, UP, thing), wrong + (("beside", (1, 1), (2, 1)),))
        wrong = NO_THINGS + (
            ("goal",), ("goal", 0), ("goal", (0, 1)), ("goal", [0, 2]), ["goal", (0, 2)], ("goal", (False, 2)), (0, 2),
            ("goal", (0, 2), (0, 2)), ("goal", (0, 2, 0)), ("goal", (1, 2)), (("goal", (0, 2)),), (0, (0, 2)),
        )
        self.none_of(lambda thing: is_bar(ROW, ENDED, FLAT, UP, thing), wrong)
        self.assertIs(is_bar(ROW, ENDED, FLAT, UP, ("goal", (0, 2))), True)
        # A jack that stays may stand on what is forbidden, and may not come back to it.
        self.assertIs(is_bar(ROW, ENDED, UP, UP, ("goal", (0, 2))), False)
        self.assertIs(can_come(ROW, ENDED, UP, UP), True)

    def test_things_that_are_no_cheapest_plans(self):
        self.assertIs(is_cheap_plan(ROW, PRICES, FLAT, UP, PLAN), True)
        wrong = NO_THINGS + (
            (), PLAN[:5], PLAN[1:], PLAN[::-1], list(PLAN), listed(PLAN), PLAN + PLAN, PLAN + (None,), ((0, 1, 1),) + PLAN[1:],
            ((False, 1),) + PLAN[1:], ((0, True),) + PLAN[1:], ((1, 1), (3, 1), (0, 2), (2, 2), (1, 2), (3, 2)), (PLAN,),
            ((0, 1), (2, 1), (1, 2), (3, 1), (3, 2), (0, 2), (2, 2)), ((0, 1), (0, 0)) + PLAN,
        )
        self.none_of(lambda thing: is_cheap_plan(ROW, PRICES, FLAT, UP, thing), wrong)
        self.none_of(lambda thing: is_cheap_plan(ROW, SHUT, FLAT, UP, thing), wrong + (PLAN,))
        self.none_of(lambda thing: is_cheap_plan(ROW, ENDED, FLAT, UP, thing), wrong + (PLAN,))

    def test_things_that_are_no_heaviest_passings(self):
        self.assertIs(is_heaviest(ROW, PRICES, FLAT, UP, ((1, 1), (3, 1))), True)
        wrong = NO_THINGS + (
            (), ((1, 1),), ((3, 1),), ((0, 1), (3, 1)), ((3, 1), (1, 1)), [(1, 1), (3, 1)], ([1, 1], [3, 1]), ((1, 1), (2, 1)),
            ((True, 1), (3, 1)), ((1, True), (3, 1)), ((1, 1), (3, 1), (3, 1)), ((1, 1), (3, 1), (3, 2)), (((1, 1), (3, 1)),),
            ((1, 1, 0), (3, 1)), ((1, 1), None), ((-3, 1), (3, 1)),
        )
        self.none_of(lambda thing: is_heaviest(ROW, PRICES, FLAT, UP, thing), wrong)
        self.none_of(lambda thing: is_heaviest(ROW, SHUT, FLAT, UP, thing), wrong + (((1, 1), (3, 1)),))
        self.assertIs(is_heaviest(ROW, EVEN, FLAT, FLAT, ()), True)

    def test_no_jack(self):
        for jack in (-1, 4, 10 ** 20):
            for other in (UP, FAR):
                self.refused(errors.NoJack, kept_to, ROW, PRICES, FLAT, other, jack, 1, jack=jack)
        self.refused(errors.NoJack, kept_to, WIDE, ((1, ()),) * 12, (0,) * 12, (2,) * 12, 12, 1, jack=12)
        for level in (0, 2, -5, 10 ** 20):
            self.refused(errors.CanNot, kept_to, ROW, PRICES, FLAT, UP, 1, level)

    def test_too_many_levels(self):
        pair, even = row(2), ((1, ()), (1, ((240, None),)))
        for other in ((240, 241), (241, 240), (-241, -240), (10 ** 6, 10 ** 6)):
            for function in (cheapest, cheap_plan, heaviest_passing):
                self.refused(errors.TooMany, function, pair, even, (0, 0), other)
                self.refused(errors.TooMany, function, pair, even, other, (0, 0))
            for thing in (None, (), ((0, 1),)):
                self.refused(errors.TooMany, is_cheap_plan, pair, even, (0, 0), other, thing)
                self.refused(errors.TooMany, is_heaviest, pair, even, (0, 0), other, thing)
            self.refused(errors.TooMany, kept_to, pair, even, (0, 0), other, 0, 1)
            self.refused(errors.TooMany, kept_to, pair, even, (0, 0), other, 0, 10 ** 9)
            self.assertIs(can_come(pair, even, (0, 0), other), other != (241, 240))
        high = (240, 240)
        self.refused(errors.CanNot, cheapest, pair, even, (0, 0), high)
        self.assertIs(is_bar(pair, even, (0, 0), high, ("goal", (1, 240))), True)
        even = ((1, ()),) * 2
        self.assertEqual(cheapest(pair, even, (0, 0), high), 241)
        plan = cheap_plan(pair, even, (0, 0), high)
        self.assertIs(is_cheap_plan(pair, even, (0, 0), high, plan), True)
        self.assertEqual(len(heaviest_passing(pair, even, (0, 0), high)), 239)
        self.assertIs(is_heaviest(pair, even, (0, 0), high, heaviest_passing(pair, even, (0, 0), high)), True)
        self.assertEqual(kept_to(pair, even, (0, 0), high, 0, 120), 1)
        # No bound where none is asked for: other is far off.
        far = (10 ** 6, 10 ** 6)
        told = ((1, ((7, None), (9, 5), (10 ** 6 - 1, None))), (1, ((7, None), (10 ** 6 - 1, 3))))
        self.assertIs(self.tell(can_come, pair, told, (0, 0), far), False)
        self.assertEqual(self.tell(bar, pair, told, (0, 0), far), ("beside", (0, 7), (1, 7)))
        self.assertIs(self.tell(is_bar, pair, told, (0, 0), far, ("beside", (0, 7), (1, 7))), True)
        self.assertIs(can_come(pair, with_price(told, 1, 7, 1), (0, 0), far), True)

    def test_too_many_jacks(self):
        for frame in (ring(9), ring(11), WIDE):
            n = frame[0]
            low, high, even = (0,) * n, (3,) * n, ((1, ()),) * n
            barred = with_price(with_price(even, 0, 1, None), 1, 1, None)
            for told in (even, barred):
                for function in (cheapest, cheap_plan, heaviest_passing):
                    self.refused(errors.TooMany, function, frame, told, low, high)
                    self.refused(errors.TooMany, function, frame, told, low, low)
                self.refused(errors.TooMany, is_cheap_plan, frame, told, low, low, ())
                self.refused(errors.TooMany, is_heaviest, frame, told, low, low, None)
                self.refused(errors.TooMany, kept_to, frame, told, low, high, 0, 1)
                self.refused(errors.TooMany, kept_to, frame, told, low, high, 0, 7)
            self.assertIs(can_come(frame, even, low, high), True)
            self.assertIs(can_come(frame, barred, low, high), False)
            self.assertEqual(bar(frame, barred, low, high), ("beside", (0, 1), (1, 1)))
            self.assertIs(is_bar(frame, barred, low, high, ("beside", (0, 1), (1, 1))), True)
            self.assertEqual(plan_price(frame, even, low, ((0, 1),)), 1)
        for frame in (full(8), WIDE_TWO, FLOOR, row(12), ring(10)):
            n = frame[0]
            self.assertGreater(cheapest(frame, ((2, ()),) * n, (0,) * n, (3,) * n), 0)

    def test_bounds(self):
        maker = Maker(109)
        for frame in (WIDE_TWO, FLOOR, row(12), full(8), KITE, HOUSE):
            n, step = frame[0], 480 // frame[0]
            for base in (10 ** 6 - 480 // n, -10 ** 6):
                one, other = (base,) * n, (base + step,) * n
                told = tuple(
                    (maker.among(1, 10 ** 6), tuple(sorted({
                        maker.among(base + 1, base + step - 1): maker.one_of((0, 5, 10 ** 6, 999999))
                        for _ in range(20)}.items()))) for _ in range(n)
                )
                self.check_at_bounds(frame, told, one, other)

    def check_at_bounds(self, frame, told, one, other):
        least = cheapest(frame, told, one, other)
        plan = cheap_plan(frame, told, one, other)
        self.assertIs(is_plan(frame, one, other, plan), True)
        self.assertEqual(plan_price(frame, told, one, plan), least)
        self.assertIs(is_cheap_plan(frame, told, one, other, plan), True)
        passing = heaviest_passing(frame, told, one, other)
        self.assertIs(is_heaviest(frame, told, one, other, passing), True)
        pair = passing[len(passing) // 2]
        kept = kept_to(frame, told, one, other, *pair)
        self.assertLessEqual(kept, cost_of(told, pair))
        # Just at that price a cheapest plan stops there as well as not, above it none does.
        price = with_price(told, *pair, kept)
        shut = with_price(told, *pair, None)
        self.assertEqual(cheapest(frame, price, one, other), cheapest(frame, shut, one, other))
        more = with_price(told, *pair, kept + 1)
        self.assertEqual(cheapest(frame, more, one, other), cheapest(frame, shut, one, other))
        if kept > 0:
            less = with_price(told, *pair, kept - 1)
            self.assertLess(cheapest(frame, less, one, other), cheapest(frame, shut, one, other))

    def test_long_plans(self):
        maker = Maker(110)
        for frame in (WIDE, WIDE_TWO, row(2), HOUSE):
            one = maker.stand(frame, 0, 3)
            plan = maker.plan(frame, one, 500, -6, 6)
            told = some_prices(maker, frame[0], -8, 8, 0, 10 ** 6)
            self.assertEqual(plan_price(frame, told, one, plan), cost_of_all(told, plan))
            if frame != WIDE:
                other = walk(frame, one, plan)[-1]
                self.assertIs(is_cheap_plan(frame, told, one, other, plan), False)
                self.assertLess(cheapest(frame, told, one, other), plan_price(frame, told, one, plan))
