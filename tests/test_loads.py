"""Promise [15]: open pairs, loads on them, the heaviest passings; and of [3] TooMany for them."""

from evenlifts import errors, loads as file_of_loads
from evenlifts.couples import free_pairs, greatest_couples
from evenlifts.frames import is_two_coloured
from evenlifts.loads import (
    heaviest_open, is_heaviest_open, is_loads, least_loads, less_by, loads_agree, loads_sum, more_by, open_pairs, weight_of,
)
from evenlifts.plans import is_straight, passed_by
from evenlifts.prices import can_come, cheap_plan, cheapest, with_price
from making import (
    Case, FLOOR, Maker, NO_THINGS, WIDE, WIDE_TWO, are_close, cost_of, full, listed, pairs_of, ring, row, some_prices,
)
from slowly import made, odd_rounds, slow_passings

EXAMPLES = r'''
>>> row, low, high = (4, ((0, 1), (1, 2), (2, 3))), (0, 0, 0, 0), (2, 2, 2, 2)
>>> prices, barred = ((3, ()), (5, ()), (4, ()), (3, ())), ((3, ()), (5, ((1, None),)), (4, ()), (3, ()))
>>> open_pairs(row, low, high, prices), open_pairs(row, low, high, barred)
(((0, 1), (1, 1), (2, 1), (3, 1)), ((3, 1),))
>>> heaviest_open(row, low, high, prices), weight_of(row, low, high, prices, ((0, 1), (2, 1))), is_heaviest_open(row, low, high, prices, ((0, 1), (2, 1)))
(((1, 1), (3, 1)), 7, False)
>>> loads = (((0, 1), (1, 1), 4), ((1, 1), (2, 1), 1), ((2, 1), (3, 1), 3))
>>> is_loads(row, low, high, prices, loads), loads_sum(row, low, high, prices, loads), loads_agree(row, low, high, prices, loads, ((1, 1), (3, 1)))
(True, 8, True)
>>> is_loads(row, low, high, prices, loads[:2]), is_loads(row, low, high, prices, tuple([(own, own, 5) for own in ((0, 1), (1, 1), (2, 1), (3, 1))])), is_loads(row, low, high, prices, tuple([(own, own, 3) for own in ((0, 1), (1, 1), (2, 1), (3, 1))]))
(False, True, False)
>>> least_loads(row, low, high, barred), loads_sum(row, low, high, prices, least_loads(row, low, high, prices))
((((3, 1), (3, 1), 3),), 8)
>>> [more_by(row, low, high, prices, own) for own in ((0, 1), (1, 1), (3, 1))], [less_by(row, low, high, prices, own) for own in ((0, 1), (1, 1), (3, 1))]
([0, 1, 1], [0, 1, 1])
>>> hoop, even = (3, ((0, 1), (0, 2), (1, 2))), ((1, ()), (1, ()), (1, ()))
>>> least_loads(hoop, (0, 0, 0), (2, 2, 2), even)
raises CanNot()
>>> weight_of(row, low, high, barred, ((0, 1),))
raises Unfit()
'''

ROW, LOW, HIGH, FAR = row(4), (0, 0, 0, 0), (2, 2, 2, 2), (1000, 1000, 1000, 1000)
PRICES = ((3, ()), (5, ()), (4, ()), (3, ()))
BARRED = ((3, ()), (5, ((1, None),)), (4, ()), (3, ()))
EVEN = ((1, ()),) * 4
LOADS = (((0, 1), (1, 1), 4), ((1, 1), (2, 1), 1), ((2, 1), (3, 1), 3))
ALONE = tuple(((jack, 1), (jack, 1), 5) for jack in range(4))

NO_PRICES = (None, 0, (), PRICES[1:], PRICES + PRICES[:1], ((0, ()),) * 4, PRICES[:3] + ((1, ((0, -1),)),), "abcd",
             PRICES[:3] + ((1, ((1, 1), (0, 1))),), PRICES[:3] + (None,), PRICES[:3] + ((True, ()),))
# What are no loads of ROW, LOW, HIGH, PRICES.
NO_LOADS = (
    None, 0, "a", (), LOADS[:2], LOADS[1:], LOADS[::-1], LOADS + LOADS[-1:], (LOADS[0][:2],) + LOADS[1:],
    (((1, 1), (0, 1), 4),) + LOADS[1:], (((0, 1), (2, 1), 9),) + LOADS[1:], (((0, 1), (1, 1), True),) + LOADS[1:],
    (((0, 1), (1, 1), 0),) + LOADS[1:], LOADS[:2] + (((2, 1), (3, 1), 2),), LOADS + (((3, 1), (3, 1), 0),),
    LOADS + (((3, 1), (3, 1), -1),), LOADS + (((3, 1), (3, 2), 1),), LOADS + (((3, 1), (4, 1), 1),), LOADS + (None,),
    LOADS + (((3, 1), None, 1),), LOADS + (((3, 1), (3, 1), None),), LOADS + (((3, 1), (3, 1), 1, 1),),
    LOADS + (((3, True), (3, 1), 1),), (((False, 1), (1, 1), 4),) + LOADS[1:], LOADS + (((3, 1), (3, 1), True),),
    (((0, 1), (1, 1), 1), ((0, 1), (1, 1), 3)) + LOADS[1:], (LOADS,), LOADS[0], (((0, 1), (0, 1), 4),) + LOADS[1:],
    (((-4, 1), (-4, 1), 4),) + LOADS, (((0, 1), (0, 1, 1), 4),) + LOADS[1:],
)


def slow_open(frame, prices, one, other):
    pairs = pairs_of(one, other)
    shut = [pair for pair in pairs if cost_of(prices, pair) is None]
    return [pair for pair in pairs if pair not in shut and not any(are_close(frame, pair, far) for far in shut)]


def slow_passings_of(frame, pairs):
    """All sets of pairs no two of which are close."""
    found = [()]
    for pair in pairs:
        found += [own + (pair,) for own in found if not any(are_close(frame, pair, far) for far in own)]
    return sorted(found)


def weigh(prices, passing):
    return sum(cost_of(prices, pair) for pair in passing)


def most_weight(frame, prices, one, other):
    known = slow_passings_of(frame, slow_open(frame, prices, one, other))
    return max(weigh(prices, own) for own in known)


def are_loads(frame, prices, one, other, thing):
    """Whether a set of triples are loads, as the document says it."""
    own = slow_open(frame, prices, one, other)
    for near, far, number in thing:
        if near not in own or far not in own or number < 1:
            return False
        if near != far and not (near < far and are_close(frame, near, far)):
            return False
    return all(
        sum(number for near, far, number in thing if pair in (near, far)) >= cost_of(prices, pair) for pair in own)


def priced_stands(seed, many, most=12, barred=1, frames=None):
    maker = Maker(seed)
    for frame, one, other in made(seed, many, 0, most, -1, 3, frames):
        yield frame, one, other, some_prices(maker, frame[0], -1, 3, barred)


class Loads(Case):

    def test_examples(self):
        self.examples(EXAMPLES, {**vars(file_of_loads), **vars(errors)})

    def test_open_pairs(self):
        for barred in (0, 1, 3, 6):
            for frame, one, other, told in priced_stands(121 + barred, 2, 20, barred):
                wanted = tuple(slow_open(frame, told, one, other))
                self.assertEqual(self.tell(open_pairs, frame, one, other, told), wanted)
                self.assertEqual(open_pairs(frame, other, one, told), wanted)

    def test_heaviest_passings_of_open_pairs(self):
        for frame, one, other, told in priced_stands(131, 4):
            own = slow_open(frame, told, one, other)
            known = slow_passings_of(frame, own)
            most = max(weigh(told, passing) for passing in known)
            passing = self.tell(heaviest_open, frame, one, other, told)
            self.assertIn(passing, known)
            self.assertEqual(self.tell(weight_of, frame, one, other, told, passing), most)
            for more in known[:: len(known) // 12 + 1] + [passing]:
                weight = weigh(told, more)
                self.assertEqual(self.tell(weight_of, frame, one, other, told, more), weight)
                self.assertIs(self.tell(is_heaviest_open, frame, one, other, told, more), weight == most)
            for more in slow_passings(frame, one, other)[::9]:
                if not set(more) <= set(own):
                    self.assertIs(is_heaviest_open(frame, one, other, told, more), False)
                    self.refused(errors.Unfit, weight_of, frame, one, other, told, more)

    def test_least_loads(self):
        seen = 0
        for frame, one, other, told in priced_stands(132, 5):
            lists = slow_open(frame, told, one, other)
            most = most_weight(frame, told, one, other)
            rounds = [turn for turn in odd_rounds(frame, one, other) if set(turn) <= set(lists)]
            if rounds:
                self.refused(errors.CanNot, least_loads, frame, one, other, told)
                continue
            seen += 1
            borne = self.tell(least_loads, frame, one, other, told)
            self.assertTrue(are_loads(frame, told, one, other, borne))
            self.assertEqual([own[:2] for own in borne], sorted({own[:2] for own in borne}))
            self.assertIs(self.tell(is_loads, frame, one, other, told, borne), True)
            # No loads are less than what some passing weighs: so these are least.
            self.assertEqual(self.tell(loads_sum, frame, one, other, told, borne), most)
            passing = heaviest_open(frame, one, other, told)
            self.assertIs(self.tell(loads_agree, frame, one, other, told, borne, passing), True)
            self.check_changed(frame, one, other, told, borne)
        self.assertGreater(seen, 50)

    def check_changed(self, frame, one, other, told, borne):
        """Each number one more or less, each triple left out: judged as the document says it."""
        for at, (near, far, number) in enumerate(borne):
            for more in (-1, 1, -number):
                rest = ((near, far, number + more),) if number + more != 0 else ()
                thing = borne[:at] + rest + borne[at + 1:]
                wanted = are_loads(frame, told, one, other, thing)
                self.assertIs(is_loads(frame, one, other, told, thing), wanted)
                if wanted:
                    self.assertEqual(loads_sum(frame, one, other, told, thing), sum(own[2] for own in thing))
                    self.assertIs(loads_agree(frame, one, other, told, thing, ()), sum(own[2] for own in thing) == 0)
                else:
                    self.refused(errors.Unfit, loads_sum, frame, one, other, told, thing)

    def test_loads_of_all_kinds(self):
        maker = Maker(133)
        for frame, one, other, told in priced_stands(134, 3, 9):
            own = slow_open(frame, told, one, other)
            couples = [(near, far) for near in own for far in own if near == far or near < far and are_close(frame, near, far)]
            most = most_weight(frame, told, one, other)
            for _ in range(6):
                thing = tuple(near + (maker.among(1, 5),) for near in couples if maker.below(3))
                wanted = are_loads(frame, told, one, other, thing)
                self.assertIs(self.tell(is_loads, frame, one, other, told, thing), wanted)
                if wanted:
                    self.assertGreaterEqual(self.tell(loads_sum, frame, one, other, told, thing), most)
                    passing = heaviest_open(frame, one, other, told)
                    agree = sum(load[2] for load in thing) == most
                    self.assertIs(self.tell(loads_agree, frame, one, other, told, thing, passing), agree)

    def test_one_more_and_one_less(self):
        for frame, one, other, told in priced_stands(135, 3, 10):
            own = slow_open(frame, told, one, other)
            most = most_weight(frame, told, one, other)
            for pair in own:
                price = cost_of(told, pair)
                grown = most_weight(frame, with_price(told, *pair, price + 1), one, other) - most
                self.assertIn(grown, (0, 1))
                self.assertEqual(self.tell(more_by, frame, one, other, told, pair), grown)
                if price == 0:
                    self.refused(errors.CanNot, less_by, frame, one, other, told, pair)
                else:
                    less = most - most_weight(frame, with_price(told, *pair, price - 1), one, other)
                    self.assertEqual(self.tell(less_by, frame, one, other, told, pair), less)
            for pair in pairs_of(one, other):
                if pair not in own:
                    self.refused(errors.Unfit, more_by, frame, one, other, told, pair)
                    self.refused(errors.Unfit, less_by, frame, one, other, told, pair)

    def test_what_cheapest_plans_pass(self):
        come = 0
        for frame, one, other, told in priced_stands(136, 5):
            if not can_come(frame, told, one, other):
                continue
            come += 1
            plan = cheap_plan(frame, told, one, other)
            if is_straight(frame, one, other, plan):
                passed = passed_by(frame, one, other, plan)
                shut = [pair for pair in pairs_of(one, other) if cost_of(told, pair) is None]
                own = tuple(pair for pair in passed if pair not in shut)
                self.assertTrue(set(shut) <= set(passed))
                self.assertIs(is_heaviest_open(frame, one, other, told, own), True)
            stops = [pair for pair in pairs_of(one, other) + list(enumerate(other)) if one[pair[0]] != pair[1]]
            price = sum(cost_of(told, stop) or 0 for stop in stops)
            heaviest = heaviest_open(frame, one, other, told)
            self.assertEqual(
                cheapest(frame, told, one, other), price - weight_of(frame, one, other, told, heaviest))
        self.assertGreater(come, 50)

    def test_couples_are_loads_if_all_weighs_one(self):
        for frame, one, other in made(137, 3, 0, 16):
            even = ((1, ()),) * frame[0]
            if is_two_coloured(frame):
                couples = greatest_couples(frame, one, other)
                free = free_pairs(frame, one, other, couples)
                thing = tuple(sorted([own + (1,) for own in couples] + [(own, own, 1) for own in free]))
                self.assertIs(is_loads(frame, one, other, even, thing), True)
                least = loads_sum(frame, one, other, even, least_loads(frame, one, other, even))
                self.assertEqual(loads_sum(frame, one, other, even, thing), least)

    def test_stops_that_cost_nothing(self):
        free = ((1, ((1, 0),)),) * 4
        self.assertEqual(least_loads(ROW, LOW, HIGH, free), ())
        self.assertIs(is_loads(ROW, LOW, HIGH, free, ()), True)
        self.assertIs(is_heaviest_open(ROW, LOW, HIGH, free, ()), True)
        self.assertIs(is_heaviest_open(ROW, LOW, HIGH, free, ((0, 1), (2, 1))), True)
        self.assertEqual(weight_of(ROW, LOW, HIGH, free, ((0, 1),)), 0)
        self.refused(errors.CanNot, less_by, ROW, LOW, HIGH, free, (0, 1))
        self.assertEqual(more_by(ROW, LOW, HIGH, free, (0, 1)), 1)

    def test_odd_rounds_that_are_not_open(self):
        hoop, low, high = ring(3), (0, 0, 0), (2, 2, 2)
        told = ((3, ((1, None),)), (1, ()), (1, ()))
        self.assertEqual(open_pairs(hoop, low, high, told), ())
        self.assertEqual(least_loads(hoop, low, high, told), ())
        self.refused(errors.CanNot, least_loads, hoop, low, high, ((3, ()),) + told[1:])
        high = (3, 3, 3)
        left = open_pairs(hoop, low, (4, 4, 4), told)
        self.assertEqual(left, ((0, 3), (1, 2), (1, 3), (2, 2), (2, 3)))
        self.refused(errors.CanNot, least_loads, hoop, low, (4, 4, 4), told)
        self.assertEqual(open_pairs(hoop, low, high, told), ((1, 2), (2, 2)))
        self.assertEqual(loads_sum(hoop, low, high, told, least_loads(hoop, low, high, told)), 1)

    def test_things_that_are_no_loads(self):
        wrong = NO_THINGS + NO_LOADS + (list(LOADS), listed(LOADS), tuple(listed(own) for own in LOADS))
        self.none_of(lambda thing: is_loads(ROW, LOW, HIGH, PRICES, thing), wrong)
        self.assertIs(is_loads(ROW, LOW, HIGH, PRICES, LOADS), True)
        self.assertIs(is_loads(ROW, LOW, HIGH, PRICES, ALONE), True)
        self.assertIs(is_loads(ROW, LOW, LOW, PRICES, ()), True)
        both = tuple(sorted(LOADS + ALONE))
        self.assertIs(is_loads(ROW, LOW, HIGH, PRICES, both), True)
        # Pairs that are passable and not open bear nothing.
        self.assertIs(is_loads(ROW, LOW, HIGH, BARRED, (((3, 1), (3, 1), 3),)), True)
        self.none_of(lambda thing: is_loads(ROW, LOW, HIGH, BARRED, thing), (LOADS, ALONE, ALONE[2:], LOADS[2:]))

    def test_things_that_are_no_heaviest_passings(self):
        wrong = NO_THINGS + (
            (), ((1, 1),), ((0, 1), (2, 1)), ((3, 1), (1, 1)), [(1, 1), (3, 1)], ([1, 1], [3, 1]), ((1, 1), (2, 1)),
            ((True, 1), (3, 1)), ((1, True), (3, 1)), ((1, 1), (3, 1), (3, 1)), ((1, 1), (3, 1), (3, 2)), ((1, 1), None),
            (((1, 1), (3, 1)),), ((1, 1, 0), (3, 1)), ((-3, 1), (3, 1)),
        )
        self.none_of(lambda thing: is_heaviest_open(ROW, LOW, HIGH, PRICES, thing), wrong)
        self.assertIs(is_heaviest_open(ROW, LOW, HIGH, PRICES, ((1, 1), (3, 1))), True)
        self.assertIs(is_heaviest_open(ROW, LOW, LOW, PRICES, ()), True)
        self.none_of(lambda thing: is_heaviest_open(ROW, LOW, HIGH, BARRED, thing), wrong + (((1, 1), (3, 1)),))
        self.assertIs(is_heaviest_open(ROW, LOW, HIGH, BARRED, ((3, 1),)), True)

    def test_unfit_stands(self):
        told = ((3, ()), (5, ()), (4, ()))
        for function in (open_pairs, heaviest_open, least_loads):
            self.unfit_stands(function, told)
        for function, more in (
            (weight_of, ()), (is_heaviest_open, None), (is_loads, None), (loads_sum, ()), (more_by, (0, 1)), (less_by, (0, 1)),
        ):
            self.unfit_stands(function, told, more)
        self.unfit_stands(loads_agree, told, (), ())

    def test_unfit_prices(self):
        for wrong in NO_PRICES:
            for other in (HIGH, FAR):
                for function in (open_pairs, heaviest_open, least_loads):
                    self.refused(errors.Unfit, function, ROW, LOW, other, wrong)
                for function in (weight_of, is_heaviest_open, is_loads, loads_sum):
                    self.refused(errors.Unfit, function, ROW, LOW, other, wrong, ())
                for function in (more_by, less_by):
                    self.refused(errors.Unfit, function, ROW, LOW, other, wrong, (0, 1))
                self.refused(errors.Unfit, loads_agree, ROW, LOW, other, wrong, LOADS, ())

    def test_unfit_passings_and_pairs(self):
        wrong = (None, 0, "a", ((0, 1), (1, 1)), ((2, 1), (0, 1)), ((0, 1), (0, 1)), ((0, 0),), (0, 1), ((0, True),),
                 ((0, 1, 2),), ((4, 1),), ((0, 1), None), (((0, 1),),), ((-1, 1),))
        for passing in wrong:
            for other in (HIGH, FAR):
                self.refused(errors.Unfit, weight_of, ROW, LOW, other, PRICES, passing)
            self.refused(errors.Unfit, loads_agree, ROW, LOW, HIGH, PRICES, LOADS, passing)
        for passing in (((0, 1),), ((1, 1),), ((0, 1), (3, 1))):
            self.refused(errors.Unfit, weight_of, ROW, LOW, HIGH, BARRED, passing)
            self.refused(errors.Unfit, weight_of, ROW, LOW, FAR, BARRED, passing)
            self.assertGreater(weight_of(ROW, LOW, HIGH, PRICES, passing), 0)
        for pair in (None, 0, (), (0,), (0, 1, 2), (0, 0), (0, 2), (4, 1), (-1, 1), (0, True), (True, 1), "01", ((0, 1),)):
            for function in (more_by, less_by):
                self.refused(errors.Unfit, function, ROW, LOW, HIGH, PRICES, pair)
                if pair != (0, 2):
                    self.refused(errors.Unfit, function, ROW, LOW, FAR, PRICES, pair)
        for function in (more_by, less_by):
            for pair in ((0, 1), (1, 1), (2, 1)):
                self.refused(errors.Unfit, function, ROW, LOW, HIGH, BARRED, pair)
                self.refused(errors.Unfit, function, ROW, LOW, FAR, BARRED, pair)

    def test_unfit_loads(self):
        for wrong in NO_LOADS:
            for function, more in ((loads_sum, ()), (loads_agree, (((0, 1),),)), (loads_agree, (None,))):
                self.refused(errors.Unfit, function, ROW, LOW, HIGH, PRICES, wrong, *more)
                self.refused(errors.Unfit, function, ROW, LOW, FAR, PRICES, wrong, *more)
        # Far off these bear too little: Unfit stands ahead of TooMany.
        self.refused(errors.Unfit, loads_sum, ROW, LOW, FAR, PRICES, LOADS)
        self.refused(errors.Unfit, loads_sum, row(2), (0, 0), (10 ** 6, 10 ** 6), PRICES[:2], ())

    def test_too_many_levels(self):
        def even(frame, low, other):
            return (((1, ()),) * frame[0],)

        for function in (open_pairs, heaviest_open):
            self.too_many_levels(function, even)
        self.too_many_levels(least_loads, even, False)
        for function in (is_heaviest_open, is_loads):
            self.too_many_levels(function, lambda *told: even(*told) + (None,))
            self.too_many_levels(function, lambda *told: even(*told) + ((),))
        self.too_many_levels(weight_of, lambda *told: even(*told) + (((0, 1),),))
        for function in (more_by, less_by):
            self.too_many_levels(function, lambda *told: even(*told) + ((0, 1),))
        pair, prices = row(2), ((2, ()), (3, ((5, None),)))
        for other in ((240, 241), (-241, -240), (300, 300)):
            every = tuple((own, own, 3) for own in slow_open(pair, prices, (0, 0), other))
            self.refused(errors.TooMany, loads_sum, pair, (0, 0), other, prices, every)
            self.refused(errors.TooMany, loads_agree, pair, (0, 0), other, prices, every, ())
            self.refused(errors.Unfit, loads_sum, pair, (0, 0), other, prices, every[1:])
            self.refused(errors.Unfit, loads_agree, pair, (0, 0), other, prices, every, ((0, 0),))
            free = ((1, ((other[0] // 2, 0),)), (1, ()))
            # Ahead of CanNot for what costs nothing.
            self.refused(errors.TooMany, less_by, pair, (0, 0), other, free, (0, other[0] // 2))
        other = (240, 240)
        borne = least_loads(pair, (0, 0), other, prices)
        passing = heaviest_open(pair, (0, 0), other, prices)
        self.assertIs(loads_agree(pair, (0, 0), other, prices, borne, passing), True)
        self.assertIs(is_heaviest_open(pair, (0, 0), other, prices, passing), True)
        self.assertEqual(len(open_pairs(pair, (0, 0), other, prices)), 2 * 239 - 4)

    def test_too_many_jacks(self):
        for frame in (ring(9), ring(11), WIDE):
            n = frame[0]
            low, high, even = (0,) * n, (3,) * n, ((2, ((1, 0),)),) * n
            self.refused(errors.TooMany, heaviest_open, frame, low, high, even)
            self.refused(errors.TooMany, heaviest_open, frame, low, low, even)
            for thing in ((), None, ((0, 1),)):
                self.refused(errors.TooMany, is_heaviest_open, frame, low, high, even, thing)
            for function in (more_by, less_by):
                self.refused(errors.TooMany, function, frame, low, high, even, (0, 2))
                self.refused(errors.TooMany, function, frame, low, high, even, (0, 1))
                self.refused(errors.Unfit, function, frame, low, high, even, (0, 3))
            self.assertEqual(open_pairs(frame, low, high, even), tuple(pairs_of(low, high)))
            self.assertEqual(weight_of(frame, low, high, even, ((0, 2),)), 2)
            every = tuple(((jack, 2), (jack, 2), 2) for jack in range(n))
            self.assertIs(is_loads(frame, low, high, even, every), True)
            self.assertIs(is_loads(frame, low, high, even, every[1:]), False)
            self.assertEqual(loads_sum(frame, low, high, even, every), 2 * n)
            self.assertIs(loads_agree(frame, low, high, even, every, ((0, 2),)), False)
            self.refused(errors.CanNot, least_loads, frame, low, high, even)
            # All but few are shut, or beside such: what is left has no odd round.
            shut = tuple((1, ((1, None), (2, None))) if jack > 2 else (5, ()) for jack in range(n))
            self.assertIs(is_loads(frame, low, high, shut, least_loads(frame, low, high, shut)), True)
        for frame in (full(8), WIDE_TWO, FLOOR, row(12)):
            n = frame[0]
            low, high, even = (0,) * n, (3,) * n, ((2, ()),) * n
            passing = heaviest_open(frame, low, high, even)
            self.assertIs(is_heaviest_open(frame, low, high, even, passing), True)
            self.assertIn(more_by(frame, low, high, even, (0, 1)), (0, 1))
            self.assertIn(less_by(frame, low, high, even, (0, 1)), (0, 1))

    def test_bounds(self):
        maker = Maker(138)
        for frame in (WIDE_TWO, FLOOR, row(12), ring(12)):
            for base in (10 ** 6 - 40, -10 ** 6):
                one, other = (base,) * 12, (base + 40,) * 12
                told = tuple(
                    (maker.among(1, 10 ** 6), tuple(sorted({
                        maker.among(base, base + 40): maker.one_of((0, 7, 10 ** 6, None)) for _ in range(20)}.items())))
                    for _ in range(12)
                )
                borne = least_loads(frame, one, other, told)
                passing = heaviest_open(frame, one, other, told)
                self.assertIs(is_loads(frame, one, other, told, borne), True)
                self.assertIs(is_heaviest_open(frame, one, other, told, passing), True)
                self.assertEqual(
                    loads_sum(frame, one, other, told, borne), weight_of(frame, one, other, told, passing))
                self.assertIs(loads_agree(frame, one, other, told, borne, passing), True)
                self.assertEqual(list(open_pairs(frame, one, other, told)), slow_open(frame, told, one, other))
                pair = passing[0]
                self.assertIn(more_by(frame, one, other, told, pair), (0, 1))
        eight = full(8)
        one, other = (0,) * 8, (60,) * 8
        told = tuple((maker.among(1, 10 ** 6), ()) for _ in range(8))
        passing = heaviest_open(eight, one, other, told)
        self.assertIs(is_heaviest_open(eight, one, other, told, passing), True)
        self.assertEqual(self.tell(more_by, eight, one, other, told, passing[3]), 1)
