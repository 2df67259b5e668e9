"""Promise [12]: the fewest deeds, shortest plans, how they begin and end, what is near; and of [3] TooMany for them."""

from evenlifts import errors, fewest as file_of_fewest
from evenlifts.deeds import is_plan
from evenlifts.fewest import (
    can_begin, can_end, fewest, fewest_down, fewest_up, is_shortest, nearest_of, raised_more, shortest_plan,
    spare_deeds, within,
)
from making import (
    Case, FLOOR, HOUSE, KITE, Maker, NO_THINGS, WIDE, WIDE_TWO, doable, full, listed, put, ring, row,
    some_frames, stands, walk,
)
from slowly import even_ways, made, slow_passings

EXAMPLES = r'''
>>> row, ring = (4, ((0, 1), (1, 2), (2, 3))), (3, ((0, 1), (0, 2), (1, 2)))
>>> flat, up = (0, 0, 0, 0), (2, 2, 2, 2)
>>> [fewest(row, flat, own) for own in (flat, (1, 1, 1, 1), up, (3, 3, 3, 3), (2, 2, 1, 0), (1, 0, 0, -1))], fewest(ring, (0, 0, 0), (3, 3, 3))
([0, 4, 6, 8, 4, 2], 7)
>>> tilted, goal = (2, 2, 1, 0), (0, 1, 1, 1)
>>> fewest(row, tilted, goal), fewest_up(row, tilted, goal), fewest_down(row, tilted, goal)
(3, 1, 2)
>>> plan = ((0, 1), (2, 1), (1, 2), (3, 2), (0, 2), (2, 2))
>>> [is_shortest(row, flat, up, own) for own in (plan, plan[:5], plan + ((0, 1), (0, 2)), list(plan), ((1, 1), (3, 1), (0, 2), (2, 2), (1, 2), (3, 2)))]
[True, False, False, False, True]
>>> is_shortest(row, flat, up, shortest_plan(row, flat, up)), spare_deeds(row, flat, plan + ((0, 1), (0, 2))), spare_deeds(row, flat, ())
(True, 2, 0)
>>> can_begin(row, flat, up), can_end(row, flat, up)
([(0, 1), (1, 1), (2, 1), (3, 1)], [(0, 2), (1, 2), (2, 2), (3, 2)])
>>> within((2, ((0, 1),)), (0, 0), 1), len(within(row, flat, 2)), nearest_of(row, flat, (up, (1, 1, 1, 1), (1, 1, 2, 2)))
([(-1, 0), (0, -1), (0, 0), (0, 1), (1, 0)], 31, 1)
>>> raised_more(row, flat, (2, 2, 2, 1), 3), raised_more(row, flat, (1, 1, 1, 1), 0)
(1, 0)
>>> raised_more(row, flat, (2, 2, 2, 1), 2)
raises CanNot()
>>> spare_deeds(row, flat, ((0, 2),))
raises Unfit()
'''

ROW, FLAT, UP = row(4), (0, 0, 0, 0), (2, 2, 2, 2)
SMALL = [frame for frame in some_frames() if frame[0] <= 5]


def apart(one, other):
    return sum(abs(low - high) for low, high in zip(one, other))


def slow_within(frame, one, many):
    """All stands that up to many deeds lead to, deed by deed."""
    found, edge = {one}, {one}
    for _ in range(many):
        edge = {put(stand, deed) for stand in edge for deed in doable(frame, stand)} - found
        found |= edge
    return sorted(found)


def up_to_two(frame, low, high):
    """Stands from low to high in all, each two of them asked for: as (one, other)."""
    maker = Maker(frame[0] + len(frame[1]))
    for _ in range(3):
        yield maker.stand(frame, low, high), maker.stand(frame, low, high)


class Fewest(Case):

    def test_examples(self):
        self.examples(EXAMPLES, {**vars(file_of_fewest), **vars(errors)})

    def test_beside_a_search_over_all_stands(self):
        for frame, one, other in made(71, 4, 0, 14, -1, 3, SMALL):
            upper = tuple(max(pair) for pair in zip(one, other))
            lower = tuple(min(pair) for pair in zip(one, other))
            ways = even_ways(frame, one, [other])
            self.assertEqual(self.tell(fewest, frame, one, other), ways[other])
            self.assertEqual(self.tell(fewest_up, frame, one, other), ways[upper])
            self.assertEqual(self.tell(fewest_down, frame, one, other), ways[lower])
            self.assertEqual(ways[upper] + ways[lower], ways[other])
            self.assertEqual(fewest(frame, other, one), ways[other])
            most = max(len(passing) for passing in slow_passings(frame, one, other))
            self.assertEqual(ways[other], apart(one, other) - most)
            plan = self.tell(shortest_plan, frame, one, other)
            self.assertEqual((len(plan), walk(frame, one, plan)[-1]), (ways[other], other))
            self.assertIs(self.tell(is_shortest, frame, one, other, plan), True)
            self.assertEqual(spare_deeds(frame, one, plan), 0)

    def test_first_and_last_deeds(self):
        for frame, one, other in made(72, 3, 0, 14, -1, 3, SMALL):
            ways, back = even_ways(frame, one, [other]), even_ways(frame, other, [one])
            first = [deed for deed in doable(frame, one) if back.get(put(one, deed)) == back[one] - 1]
            self.assertEqual(self.tell(can_begin, frame, one, other), first)
            last = []
            for deed in doable(frame, other):
                ahead = put(other, deed)
                if ways.get(ahead) == ways[other] - 1:
                    last.append((deed[0], other[deed[0]]))
            self.assertEqual(self.tell(can_end, frame, one, other), sorted(set(last)))
            for deed in first:
                rest = shortest_plan(frame, put(one, deed), other)
                self.assertIs(is_shortest(frame, one, other, (deed,) + rest), True)

    def test_a_deed_more(self):
        for frame, one, other in made(73, 2, 0, 14, -1, 3, SMALL):
            before = fewest(frame, one, other)
            for deed in doable(frame, one):
                self.assertLessEqual(abs(one[deed[0]] - deed[1]), 2)
                behind = fewest(frame, put(one, deed), other)
                self.assertIn(behind - before, (-1, 0, 1))
                told = shortest_plan(frame, put(one, deed), other)
                self.assertIs(is_shortest(frame, one, other, (deed,) + told), behind == before - 1)
                self.assertEqual(spare_deeds(frame, one, (deed,) + told), behind + 1 - before)

    def test_by_way_of_any_stand_never_fewer(self):
        for frame in (row(3), ring(3), row(4), KITE):
            for one, other in up_to_two(frame, 0, 4):
                straight = fewest(frame, one, other)
                for middle in even_ways(frame, one, [other]):
                    self.assertGreaterEqual(fewest(frame, one, middle) + fewest(frame, middle, other), straight)

    def test_spare_deeds(self):
        maker = Maker(74)
        for frame in SMALL:
            for many in (1, 4, 9):
                one = maker.stand(frame, 0, 2)
                plan = maker.plan(frame, one, many, -1, 3)
                other = walk(frame, one, plan)[-1]
                ways = even_ways(frame, one, [other, (-1,) * frame[0], (3,) * frame[0]])
                self.assertEqual(self.tell(spare_deeds, frame, one, plan), len(plan) - ways[other])
                self.assertIs(self.tell(is_shortest, frame, one, other, plan), len(plan) == ways[other])
        for frame in (ROW, ring(11), WIDE):
            self.assertEqual(self.tell(spare_deeds, frame, (0,) * frame[0], ()), 0)

    def test_within(self):
        maker = Maker(75)
        for frame in SMALL + [full(6), HOUSE]:
            one = maker.stand(frame, -2, 3)
            for many in (0, 1, 2, 3):
                wanted = slow_within(frame, one, many)
                if len(wanted) > 2000:
                    self.refused(errors.TooMany, within, frame, one, many)
                else:
                    self.assertEqual(self.tell(within, frame, one, many), wanted)
            self.assertEqual(within(frame, one, 0), [one])
            for stand in within(frame, one, 2):
                self.assertLessEqual(fewest(frame, one, stand), 2)

    def test_within_just_enough(self):
        eight = (8, ((0, 5), (1, 2), (1, 6), (1, 7), (2, 3), (2, 7), (3, 5), (4, 7)))
        nine = (9, ((0, 2), (0, 5), (1, 8), (2, 6), (3, 4), (3, 6), (5, 7)))
        high, low = (0, -3, -2, -2, -1, -1, -3, -2), (0, 0, -1, -2, -3, 1, -2, 1, -1)
        for frame, one, many in ((eight, high, 6), (nine, low, 5)):
            told = within(frame, one, many)
            self.assertEqual((len(told), told), (2000, sorted(set(told))))
            self.refused(errors.TooMany, within, frame, one, many + 1)
        seven, one = (7, ((0, 4), (1, 3), (1, 6), (2, 5), (3, 5))), (-2, -1, -2, -2, -3, -1, -1)
        self.assertEqual(len(slow_within(seven, one, 5)), 2001)
        self.refused(errors.TooMany, within, seven, one, 5)
        self.assertEqual(within(seven, one, 4), slow_within(seven, one, 4))

    def test_within_far_off(self):
        pair = row(2)
        told = within(pair, (10 ** 6, 10 ** 6), 300)
        self.assertEqual((len(told), told[0]), (len(slow_within(pair, (10 ** 6, 10 ** 6), 300)), min(told)))
        self.refused(errors.TooMany, within, pair, (0, 0), 10 ** 6)
        self.refused(errors.TooMany, within, WIDE, (0,) * 12, 10 ** 6)
        self.assertEqual(len(self.tell(within, WIDE, (0,) * 12, 1)), 25)
        self.assertEqual(len(within(WIDE_TWO, (-10 ** 6,) * 12, 2)), len(slow_within(WIDE_TWO, (-10 ** 6,) * 12, 2)))

    def test_nearest_of(self):
        maker = Maker(76)
        for frame in SMALL:
            one = maker.stand(frame, 0, 3)
            goals = tuple(maker.stand(frame, 0, 3) for _ in range(maker.among(1, 6)))
            ways = even_ways(frame, one, goals)
            many = [ways[goal] for goal in goals]
            self.assertEqual(self.tell(nearest_of, frame, one, goals), many.index(min(many)))
            self.assertEqual(nearest_of(frame, one, goals + (one, one)), (goals + (one,)).index(one))
            self.assertEqual(nearest_of(frame, one, goals[:1] * 3), 0)

    def test_raised_more(self):
        for frame, one, other in made(77, 3, 0, 12, -1, 3, SMALL):
            ways = even_ways(frame, one, [other, tuple(height + 1 for height in other)])
            for jack in range(frame[0]):
                higher = put(other, (jack, other[jack] + 1))
                if stands(frame, higher):
                    self.assertEqual(
                        self.tell(raised_more, frame, one, other, jack), ways[higher] - ways[other])
                else:
                    self.refused(errors.CanNot, raised_more, frame, one, other, jack)

    def test_things_that_are_no_shortest_plans(self):
        plan = ((0, 1), (2, 1), (1, 2), (3, 2), (0, 2), (2, 2))
        self.assertIs(self.tell(is_shortest, ROW, FLAT, UP, plan), True)
        wrong = NO_THINGS + (
            (), plan[:5], plan[1:], plan[::-1], list(plan), listed(plan), plan + ((0, 1), (0, 2)), plan + (None,),
            ((False, 1),) + plan[1:], ((0, True),) + plan[1:], ((0, 1, 0),) + plan[1:], ((4, 1),) + plan[1:],
            ((-4, 1),) + plan[1:], ((0, 1), (1, 1), (2, 1), (3, 1), (0, 2), (1, 2), (2, 2), (3, 2)),
        )
        self.none_of(lambda thing: is_shortest(ROW, FLAT, UP, thing), wrong)
        self.assertIs(is_shortest(ROW, FLAT, FLAT, ()), True)
        self.none_of(lambda thing: is_shortest(ROW, FLAT, FLAT, thing))
        for thing in NO_THINGS + (plan,):
            self.refused(errors.TooMany, is_shortest, row(2), (0, 0), (241, 240), thing)
            self.refused(errors.TooMany, is_shortest, ring(9), (0,) * 9, (1,) * 9, thing)

    def test_unfit(self):
        for plan in (((0, 2),), ((0, 1), (1, 2), (1, 1)), ((0, 0),), ((0, 1), (0, 1)), ((4, 1),), ((-1, 1),)):
            self.refused(errors.Unfit, spare_deeds, ROW, FLAT, plan)
            self.refused(errors.Unfit, spare_deeds, ring(9), (0,) * 9, ((0, 5),) + plan)
        # Ahead of TooMany: the last deed cannot be done.
        climb = tuple((jack, height) for height in range(1, 242) for jack in (0, 1))
        self.refused(errors.TooMany, spare_deeds, row(2), (0, 0), climb)
        self.refused(errors.Unfit, spare_deeds, row(2), (0, 0), climb + ((0, 300),))

    def test_no_jack(self):
        for jack in (-1, 4, 10 ** 20):
            self.refused(errors.NoJack, raised_more, ROW, FLAT, UP, jack, jack=jack)
            self.refused(errors.NoJack, raised_more, ROW, FLAT, (1000,) * 4, jack, jack=jack)
        self.refused(errors.NoJack, raised_more, WIDE, (0,) * 12, (0,) * 12, 12, jack=12)
        # TooMany is asked ahead of whether it can be raised.
        self.refused(errors.TooMany, raised_more, ROW, FLAT, (1000, 1000, 1000, 999), 0)
        self.refused(errors.CanNot, raised_more, ROW, FLAT, (100, 100, 100, 99), 2)

    def test_too_many_levels(self):
        for function in (fewest, fewest_up, fewest_down, shortest_plan, can_begin, can_end):
            self.too_many_levels(function, lambda *stands: ())
        self.too_many_levels(is_shortest, lambda *stands: (None,))
        self.too_many_levels(raised_more, lambda *stands: (0,))
        pair, low = row(2), (0, 0)
        self.assertEqual(raised_more(pair, low, (240, 240), 0), 0)
        self.assertEqual(fewest(pair, low, (240, 240)), 241)
        self.refused(errors.TooMany, nearest_of, pair, low, ((1, 1), (0, 1), (241, 240)))
        self.refused(errors.TooMany, nearest_of, pair, low, ((241, 240), (0, 0)))
        self.assertEqual(nearest_of(pair, low, ((240, 240), (239, 240))), 1)
        # Up and down are bounded by one and other themselves: a lowered and a raised jack.
        parted = (4, ((0, 1), (2, 3)))
        self.assertEqual(fewest_up(parted, (0, 0, 0, 0), (120, 120, -120, -120)), 121)
        self.assertEqual(fewest_down(parted, (0, 0, 0, 0), (120, 120, -120, -120)), 121)
        self.refused(errors.TooMany, fewest_up, parted, (0, 0, 0, 0), (120, 120, -120, -121))
        self.refused(errors.TooMany, fewest_down, parted, (0, 0, 0, 0), (121, 120, -120, -120))

    def test_too_many_jacks(self):
        nine, ten = ring(9), (10, ring(9)[1] + ((8, 9),))
        for frame in (nine, ten, ring(11), WIDE):
            low, high = (0,) * frame[0], (2,) * frame[0]
            for function in (fewest, fewest_up, fewest_down, shortest_plan, can_begin, can_end):
                self.refused(errors.TooMany, function, frame, low, high)
                self.refused(errors.TooMany, function, frame, low, low)
            self.refused(errors.TooMany, is_shortest, frame, low, low, ())
            self.refused(errors.TooMany, nearest_of, frame, low, (low,))
            self.refused(errors.TooMany, raised_more, frame, low, low, 0)
            self.refused(errors.TooMany, spare_deeds, frame, low, ((0, 1),))
            self.refused(errors.TooMany, spare_deeds, frame, low, ((0, 1), (0, 0)))
            self.assertEqual(spare_deeds(frame, low, ()), 0)
            self.assertEqual(len(within(frame, low, 1)), 2 * frame[0] + 1)
        eight = (8, tuple(sorted(ring(7)[1] + ((6, 7),))))
        for frame in (full(8), eight, row(9), ring(10), row(12), FLOOR):
            low, high = (0,) * frame[0], (2,) * frame[0]
            plan = shortest_plan(frame, low, high)
            self.assertEqual(len(plan), fewest(frame, low, high))
            self.assertIs(is_shortest(frame, low, high, plan), True)
            self.assertEqual(spare_deeds(frame, low, plan), 0)

    def test_bounds(self):
        for frame in (WIDE_TWO, FLOOR, row(12), ring(12), full(8), ring(7)):
            for base in (10 ** 6, -10 ** 6):
                n = frame[0]
                step = 480 // n if base < 0 else -(480 // n)
                one, other = (base,) * n, (base + step,) * n
                many = fewest(frame, one, other)
                plan = shortest_plan(frame, one, other)
                self.assertEqual(len(plan), many)
                self.assertIs(is_plan(frame, one, other, plan), True)
                self.assertIs(is_shortest(frame, one, other, plan), True)
                if frame not in (full(8), ring(7)):
                    # Sides of six jacks: at each level one of them is passed.
                    self.assertEqual(many, n * abs(step) - n // 2 * (abs(step) - 1))
                if step > 0:
                    self.assertEqual((fewest_up(frame, one, other), fewest_down(frame, one, other)), (many, 0))
                else:
                    self.assertEqual((fewest_up(frame, one, other), fewest_down(frame, one, other)), (0, many))
                self.assertIn(plan[0], can_begin(frame, one, other))
                self.assertIn(plan[-1], can_end(frame, one, other))
                self.assertIn(raised_more(frame, one, other, 0), (-1, 0, 1))
                self.assertEqual(nearest_of(frame, one, (other, one)), 1)

    def test_long_plans(self):
        maker = Maker(78)
        for frame in (WIDE_TWO, row(2), HOUSE, KITE):
            one = maker.stand(frame, 0, 3)
            plan = maker.plan(frame, one, 500, -6, 6)
            self.assertEqual(len(plan), 500)
            other = walk(frame, one, plan)[-1]
            self.assertEqual(spare_deeds(frame, one, plan), 500 - fewest(frame, one, other))
            self.assertIs(is_shortest(frame, one, other, plan), False)
