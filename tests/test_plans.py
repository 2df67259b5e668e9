"""Promise [11]: plans, straight ones, what they pass, wasted stops; and of [3] TooMany for what they list."""

from evenlifts import errors, plans
from evenlifts.deeds import is_plan
from evenlifts.passings import all_passings, filled_up, greatest_passing, is_passing
from evenlifts.plans import (
    deeds_with, is_plan_of, is_straight, pass_moment, passed_by, plan_of, plan_with, plan_without, shortened,
    stand_at_pass, wasted_stops,
)
from making import (
    Case, FLOOR, HOUSE, KITE, Maker, NO_FRAMES, NO_STANDS, NO_THINGS, WIDE, WIDE_TWO, are_close, doable, full, listed,
    pairs_of, put, ring, row, some_frames, walk,
)
from slowly import made, slow_passings

EXAMPLES = r'''
>>> path, low, high = (3, ((0, 1), (1, 2))), (0, 0, 0), (3, 3, 3)
>>> one_by_one = ((1, 1), (0, 2), (2, 2), (1, 3), (0, 3), (2, 3))
>>> is_plan_of(path, low, high, ((0, 1), (1, 2), (2, 1)), one_by_one), is_plan_of(path, low, high, (), one_by_one), is_straight(path, low, high, one_by_one)
(True, False, True)
>>> deeds_with(path, low, high, ()), deeds_with(path, low, high, ((1, 1),)), len(plan_of(path, low, high, ((0, 2),)))
(9, 8, 8)
>>> passed_by(path, low, high, one_by_one), pass_moment(path, low, high, one_by_one, (1, 2)), stand_at_pass(path, low, high, one_by_one, (1, 2))
(((0, 1), (1, 2), (2, 1)), 3, (2, 1, 2))
>>> passed_by(path, low, high, plan_without(path, low, high, one_by_one, (0, 1))), passed_by(path, low, high, plan_with(path, low, high, plan_of(path, low, high, ()), (2, 2)))
(((1, 2), (2, 1)), ((2, 2),))
>>> slow = ((0, 1), (1, 1), (2, 1), (0, 2), (1, 2), (2, 2))
>>> wasted_stops(path, low, slow), shortened(path, low, slow), wasted_stops(path, low, one_by_one)
((0,), ((1, 1), (2, 1), (0, 2), (1, 2), (2, 2)), ())
>>> is_straight(path, low, low, ((0, 1), (0, 0))), passed_by(path, low, low, ((0, 1), (0, 0))), shortened(path, low, ((0, 1), (0, 0), (1, 1)))
(False, (), ((0, 1), (0, 0), (1, 1)))
>>> pass_moment(path, low, high, one_by_one, (0, 2))
raises CanNot()
'''

PATH, LOW, HIGH, FAR = row(3), (0, 0, 0), (3, 3, 3), (1000, 1000, 1000)
ONE_BY_ONE = ((1, 1), (0, 2), (2, 2), (1, 3), (0, 3), (2, 3))


def goes_straight(frame, one, other, plan):
    """Whether a plan leads straight, as the document says it."""
    stands = walk(frame, one, plan)
    if stands is None or stands[-1] != other:
        return False
    for stand, (jack, height) in zip(stands, plan):
        before, behind = other[jack] - stand[jack], other[jack] - height
        if abs(behind) >= abs(before) or before * behind < 0:
            return False
    return True


def slow_passed(one, other, plan):
    return tuple(pair for pair in pairs_of(one, other) if pair not in plan)


def slow_wasted(frame, one, plan):
    """The numbers of the deeds that can be left out, each tried."""
    end = walk(frame, one, plan)[-1]
    found = []
    for number in range(len(plan)):
        stands = walk(frame, one, plan[:number] + plan[number + 1:])
        if stands is not None and stands[-1] == end:
            found.append(number)
    return tuple(found)


def straight_way(maker, frame, one, other):
    """A straight plan, each deed one of those that come closer."""
    plan, stand = (), one
    while stand != other:
        deed = maker.one_of([
            (jack, height) for jack, height in doable(frame, stand)
            if stand[jack] < height <= other[jack] or other[jack] <= height < stand[jack]
        ])
        plan, stand = plan + (deed,), put(stand, deed)
    return plan


class Plans(Case):

    def test_examples(self):
        self.examples(EXAMPLES, {**vars(plans), **vars(errors)})

    def test_each_passing_is_what_some_straight_plan_passes(self):
        for frame, one, other in made(61, 2, 0, 10):
            known = slow_passings(frame, one, other)
            apart = sum(abs(low - high) for low, high in zip(one, other))
            for at, passing in enumerate(known[:: len(known) // 12 + 1]):
                ask = self.tell if at < 3 else (lambda function, *values: function(*values))
                plan = ask(plan_of, frame, one, other, passing)
                self.assertTrue(goes_straight(frame, one, other, plan))
                self.assertEqual(slow_passed(one, other, plan), passing)
                self.assertEqual(ask(deeds_with, frame, one, other, passing), len(plan))
                self.assertEqual(len(plan), apart - len(passing))
                self.assertIs(ask(is_plan_of, frame, one, other, passing, plan), True)
                self.assertIs(ask(is_straight, frame, one, other, plan), True)
                self.assertEqual(ask(passed_by, frame, one, other, plan), passing)
                for more in known[:: len(known) // 5 + 1]:
                    self.assertIs(is_plan_of(frame, one, other, more, plan), more == passing)
                for wrong in (plan[1:], plan[:-1], plan + plan[-1:], listed(plan)):
                    if wrong != plan:
                        self.assertIs(is_plan_of(frame, one, other, passing, wrong), False)

    def test_what_straight_plans_pass_is_a_passing(self):
        maker = Maker(62)
        for frame, one, other in made(63, 3, 0, 14):
            plan = straight_way(maker, frame, one, other)
            self.assertIs(self.tell(is_straight, frame, one, other, plan), True)
            passed = self.tell(passed_by, frame, one, other, plan)
            self.assertEqual(passed, slow_passed(one, other, plan))
            self.assertIs(is_passing(frame, one, other, passed), True)
            self.assertIs(is_plan_of(frame, one, other, passed, plan), True)
            self.assertEqual(deeds_with(frame, one, other, passed), len(plan))
            self.check_moments(frame, one, other, plan, passed)
            self.check_more_and_less(frame, one, other, plan, passed)

    def check_moments(self, frame, one, other, plan, passed):
        """Whoever goes past a level does it when all its neighbours stand on it."""
        stands = walk(frame, one, plan)
        for at, (jack, level) in enumerate(pairs_of(one, other)):
            if (jack, level) not in passed:
                self.refused(errors.CanNot, pass_moment, frame, one, other, plan, (jack, level))
                self.refused(errors.CanNot, stand_at_pass, frame, one, other, plan, (jack, level))
                continue
            ask = self.tell if at < 3 else (lambda function, *values: function(*values))
            number = ask(pass_moment, frame, one, other, plan, (jack, level))
            stand = ask(stand_at_pass, frame, one, other, plan, (jack, level))
            self.assertEqual(stand, stands[number])
            self.assertEqual(plan[number][0], jack)
            self.assertEqual({stand[jack], plan[number][1]}, {level - 1, level + 1})
            self.assertTrue(all(stand[low + high - jack] == level for low, high in frame[1] if jack in (low, high)))

    def check_more_and_less(self, frame, one, other, plan, passed):
        for at, pair in enumerate(pairs_of(one, other)):
            ask = self.tell if at < 3 else (lambda function, *values: function(*values))
            if pair in passed or any(are_close(frame, pair, far) for far in passed):
                self.refused(errors.CanNot, plan_with, frame, one, other, plan, pair)
            else:
                told = ask(plan_with, frame, one, other, plan, pair)
                self.assertTrue(goes_straight(frame, one, other, told))
                self.assertEqual(slow_passed(one, other, told), tuple(sorted(passed + (pair,))))
            if pair in passed:
                told = ask(plan_without, frame, one, other, plan, pair)
                self.assertTrue(goes_straight(frame, one, other, told))
                self.assertEqual(slow_passed(one, other, told), tuple(own for own in passed if own != pair))
            else:
                self.refused(errors.CanNot, plan_without, frame, one, other, plan, pair)

    def test_plans_of_any_kind(self):
        maker = Maker(64)
        for frame in some_frames() + [WIDE, FLOOR]:
            for many in (3, 8, 14):
                one = maker.stand(frame, -2, 3)
                plan = maker.plan(frame, one, many, -3, 4)
                other = walk(frame, one, plan)[-1]
                self.assertEqual(self.tell(passed_by, frame, one, other, plan), slow_passed(one, other, plan))
                self.assertIs(self.tell(is_straight, frame, one, other, plan), goes_straight(frame, one, other, plan))
                self.check_wasted(frame, one, plan)

    def check_wasted(self, frame, one, plan):
        self.assertEqual(self.tell(wasted_stops, frame, one, plan), slow_wasted(frame, one, plan))
        left = plan
        while slow_wasted(frame, one, left):
            first = slow_wasted(frame, one, left)[0]
            left = left[:first] + left[first + 1:]
        self.assertEqual(self.tell(shortened, frame, one, plan), left)
        self.assertEqual(walk(frame, one, left)[-1], walk(frame, one, plan)[-1])

    def test_wasted_stops_of_straight_plans(self):
        maker = Maker(65)
        for frame, one, other in made(66, 3, 1, 14):
            plan = straight_way(maker, frame, one, other)
            self.check_wasted(frame, one, plan)
            filled = filled_up(frame, one, other, passed_by(frame, one, other, plan))
            told = plan_of(frame, one, other, filled)
            self.assertEqual(wasted_stops(frame, one, told), ())
            self.assertEqual(shortened(frame, one, told), told)
            # What is shortened passes all that was passed, and more.
            short = shortened(frame, one, plan)
            self.assertIs(is_straight(frame, one, other, short), True)
            self.assertTrue(set(passed_by(frame, one, other, plan)) <= set(passed_by(frame, one, other, short)))

    def test_no_wasted_stops_and_more_than_the_fewest_yet(self):
        two = (2, 2, 2)
        plan = plan_of(PATH, LOW, two, ((1, 1),))
        self.assertEqual((wasted_stops(PATH, LOW, plan), len(plan)), ((), 5))
        self.assertEqual(deeds_with(PATH, LOW, two, greatest_passing(PATH, LOW, two)), 4)

    def test_things_that_are_no_plans(self):
        wrong = [thing for thing in NO_THINGS if thing != ()] + [
            ONE_BY_ONE[:-1], ONE_BY_ONE[::-1], list(ONE_BY_ONE), listed(ONE_BY_ONE), ONE_BY_ONE + ((0, 3),),
            ONE_BY_ONE + ((0, 4), (0, 3)), ((True, 1),) + ONE_BY_ONE[1:], ((1, True),) + ONE_BY_ONE[1:],
            ((1, 1, 0),) + ONE_BY_ONE[1:], ((3, 1),) + ONE_BY_ONE, ((-2, 1),) + ONE_BY_ONE[1:], (None,) + ONE_BY_ONE,
            ((0, -1), (0, 0)) + ONE_BY_ONE, (),
        ]
        passing = ((0, 1), (1, 2), (2, 1))
        self.none_of(lambda thing: is_straight(PATH, LOW, HIGH, thing), wrong)
        self.none_of(lambda thing: is_plan_of(PATH, LOW, HIGH, passing, thing), wrong)
        self.assertIs(is_straight(PATH, LOW, LOW, ()), True)
        self.assertIs(is_plan_of(PATH, LOW, LOW, (), ()), True)

    def test_unfit_stands(self):
        extra = {
            plan_of: ((),), is_plan_of: ((), ()), deeds_with: ((),), is_straight: ((),), passed_by: (ONE_BY_ONE,),
            pass_moment: (ONE_BY_ONE, (0, 1)), stand_at_pass: (ONE_BY_ONE, (0, 1)), plan_with: (ONE_BY_ONE, (0, 1)),
            plan_without: (ONE_BY_ONE, (0, 1)),
        }
        for function, more in extra.items():
            self.unfit_stands(function, *more)
        for function in (wasted_stops, shortened):
            for frame in NO_FRAMES:
                self.refused(errors.Unfit, function, frame, LOW, ())
            for heights in NO_STANDS:
                self.refused(errors.Unfit, function, PATH, heights, ())

    def test_unfit_passings(self):
        wrong = (None, 0, "a", ((0, 1), (0, 2)), ((0, 1), (1, 1)), ((1, 2), (0, 1)), ((0, 1), (0, 1)), ((0, 0),), (0, 1),
                 ((0, True),), ((0, 1, 2),), ((3, 1),), ((0, 1), None), (((0, 1),),))
        for passing in wrong:
            for other in (HIGH, FAR):
                self.refused(errors.Unfit, plan_of, PATH, LOW, other, passing)
                self.refused(errors.Unfit, deeds_with, PATH, LOW, other, passing)
                for thing in (ONE_BY_ONE, None):
                    self.refused(errors.Unfit, is_plan_of, PATH, LOW, other, passing, thing)

    def test_unfit_plans(self):
        wrong = (None, 0, "a", ONE_BY_ONE[:-1], ONE_BY_ONE[::-1], ((1, 2),), ((3, 1),), ((-1, 1),), ((0, 1, 1),), (0, 1),
                 ((0, None),), ((True, 1),) + ONE_BY_ONE[1:], ((0, 0),) + ONE_BY_ONE, ((None, 1),))
        roundabout = ((0, -1), (0, 0)) + ONE_BY_ONE
        for plan in wrong:
            self.refused(errors.Unfit, passed_by, PATH, LOW, HIGH, plan)
            self.refused(errors.Unfit, passed_by, PATH, LOW, FAR, plan)
            for function in (wasted_stops, shortened):
                if plan != ONE_BY_ONE[:-1]:
                    self.refused(errors.Unfit, function, PATH, LOW, plan)
        self.assertEqual(passed_by(PATH, LOW, HIGH, roundabout), ((0, 1), (1, 2), (2, 1)))
        for function in (pass_moment, stand_at_pass, plan_with, plan_without):
            for plan in wrong + (roundabout,):
                for pair in ((0, 1), (9, 9)):
                    self.refused(errors.Unfit, function, PATH, LOW, HIGH, plan, pair)
                    self.refused(errors.Unfit, function, PATH, LOW, FAR, plan, pair)
            for pair in (None, 0, (), (0,), (0, 1, 2), (0, None), (True, 1), (0, True), ("0", 1), "01", ((0, 1),)):
                self.refused(errors.Unfit, function, PATH, LOW, HIGH, ONE_BY_ONE, pair)

    def test_can_not(self):
        for pair in ((0, 0), (0, 3), (3, 1), (-1, 1), (-3, 2), (10 ** 20, 1), (0, -10 ** 20), (0, 2), (1, 1)):
            for function in (pass_moment, stand_at_pass, plan_without, plan_with):
                self.refused(errors.CanNot, function, PATH, LOW, HIGH, ONE_BY_ONE, pair)
        self.refused(errors.CanNot, plan_with, PATH, LOW, HIGH, ONE_BY_ONE, (0, 1))

    def test_too_many_levels(self):
        def long(frame, low, other):
            """A straight plan without a pass, level by level."""
            plan, stand = (), low
            while stand != other:
                step = 1 if sum(other) > sum(stand) else -1
                for jack in range(frame[0]):
                    if stand[jack] != other[jack]:
                        plan, stand = plan + ((jack, stand[jack] + step),), put(stand, (jack, stand[jack] + step))
            return plan

        def told(*behind):
            def more(frame, low, other):
                if max(low + other) > 1000:
                    # Far beyond: a passing can be told, a plan would be too long here.
                    return behind
                return tuple(long(frame, low, other) if own == "plan" else own for own in behind)
            return more

        self.too_many_levels(plan_of, told(()))
        self.too_many_levels(deeds_with, told(((0, 1),)))
        self.too_many_levels(is_plan_of, told((), None))
        pair = row(2)
        for frame, other in ((pair, (240, 241)), (ring(3), (160, 161, 160)), (pair, (300, 300))):
            low = (0,) * frame[0]
            plan = long(frame, low, other)
            self.assertIs(is_plan(frame, low, other, plan), True)
            self.refused(errors.TooMany, passed_by, frame, low, other, plan)
            for function in (pass_moment, stand_at_pass, plan_with, plan_without):
                for own in ((0, 1), (0, 2), (99, 99)):
                    self.refused(errors.TooMany, function, frame, low, other, plan, own)
            self.assertIs(is_straight(frame, low, other, plan), True)
            self.assertIs(is_straight(frame, low, other, None), False)
            self.assertEqual(walk(frame, low, shortened(frame, low, plan))[-1], other)
            self.assertIn(0, wasted_stops(frame, low, plan))
        low, other = (0, 0), (240, 240)
        plan = long(pair, low, other)
        self.assertEqual(passed_by(pair, low, other, plan), ())
        told = plan_with(pair, low, other, plan, (0, 7))
        self.assertEqual(passed_by(pair, low, other, told), ((0, 7),))
        self.assertEqual(stand_at_pass(pair, low, other, told, (0, 7)), (6, 7))
        self.assertEqual(told[pass_moment(pair, low, other, told, (0, 7))], (0, 8))
        self.assertEqual(passed_by(pair, low, other, plan_without(pair, low, other, told, (0, 7))), ())
        self.assertIs(is_straight(pair, low, (10 ** 6, 10 ** 6), ()), False)

    def test_wide_frames(self):
        for frame in (WIDE, WIDE_TWO, FLOOR, ring(11), full(7)):
            low, high = (-10 ** 6,) * frame[0], (40 - 10 ** 6,) * frame[0]
            passing = filled_up(frame, low, high, ())
            plan = plan_of(frame, low, high, passing)
            self.assertTrue(goes_straight(frame, low, high, plan))
            self.assertIs(is_plan_of(frame, low, high, passing, plan), True)
            self.assertEqual(passed_by(frame, low, high, plan), passing)
            self.assertEqual(len(plan), deeds_with(frame, low, high, passing))
            self.assertEqual(wasted_stops(frame, low, plan), ())
            pair = passing[len(passing) // 2]
            without = plan_without(frame, low, high, plan, pair)
            self.assertEqual(len(without), len(plan) + 1)
            self.assertEqual(passed_by(frame, low, high, plan_with(frame, low, high, without, pair)), passing)
            moment = pass_moment(frame, low, high, plan, pair)
            self.assertEqual(plan[moment][0], pair[0])
            self.assertEqual(stand_at_pass(frame, low, high, plan, pair)[pair[0]], pair[1] - 1)
            every = plan_of(frame, low, high, ())
            self.assertEqual(len(every), 40 * frame[0])
            self.assertEqual(walk(frame, low, shortened(frame, low, every))[-1], high)

    def test_long_plans(self):
        maker = Maker(67)
        for frame in (WIDE, row(2), HOUSE, KITE):
            one = (0,) * frame[0]
            plan = maker.plan(frame, one, 500, -5, 5)
            self.assertEqual(len(plan), 500)
            other = walk(frame, one, plan)[-1]
            self.assertEqual(wasted_stops(frame, one, plan), slow_wasted(frame, one, plan))
            short = shortened(frame, one, plan)
            self.assertEqual(wasted_stops(frame, one, short), ())
            self.assertEqual(walk(frame, one, short)[-1], other)
            self.assertIs(is_straight(frame, one, other, plan), False)
            self.assertEqual(passed_by(frame, one, other, plan), slow_passed(one, other, plan))

    def test_all_passings_of_a_frame(self):
        for frame in (HOUSE, KITE, ring(5)):
            one, other = (0,) * frame[0], (2,) * frame[0]
            for passing in all_passings(frame, one, other):
                self.assertIs(is_plan_of(frame, one, other, passing, plan_of(frame, one, other, passing)), True)
