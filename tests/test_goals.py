"""Promise [19]: goals told in part, the nearest stand that fits, who must move and why; and of [3] TooMany for them."""

import itertools

from evenlifts import errors, goals
from evenlifts.fewest import fewest
from evenlifts.goals import (
    can_fit, fewest_to, goal_bar, is_goal, is_goal_bar, is_plan_to_goal, is_why_moved, must_move, nearest_stand,
    plan_to_goal, why_moved,
)
from making import (
    APART, Case, FLOOR, HOUSE, KITE, Maker, NO_THINGS, WIDE, WIDE_TWO, full, lengths, listed, ring, row, some_frames,
    stands, star, walk,
)
from slowly import cheapest_ways, even_ways

EXAMPLES = r'''
>>> row, one, low, high = (3, ((0, 1), (1, 2))), (0, 0, 0), (2, 2, 2), (3, 3, 3)
>>> goal, torn = ((2, 3),), ((0, 0), (2, 3))
>>> nearest_stand(row, one, goal), must_move(row, one, goal), nearest_stand(row, low, goal), must_move(row, low, goal), nearest_stand(row, (5, 4, 3), ((1, 1),))
((1, 2, 3), (0, 1, 2), (2, 2, 3), (2,), (2, 1, 2))
>>> can_fit(row, torn), [is_goal_bar(row, torn, own) for own in ((0, 1, 2), (2, 1, 0), (0, 1), [0, 1, 2])], can_fit(row, ((0, 0), (2, 2))), can_fit(row, ())
(False, [True, True, False, False], True, True)
>>> fewest_to(row, one, goal), fewest_to(row, (5, 4, 3), ((1, 1),)), fewest_to(row, low, ((0, 2),)), is_plan_to_goal(row, one, goal, ((2, 1), (0, 1), (1, 2), (2, 3)))
(4, 5, 0, True)
>>> [is_why_moved(row, one, goal, 0, own) for own in ((2, 1, 0), (2, 1), (0,))], why_moved(row, low, goal, 2), [is_goal(row, own) for own in ((), goal, ((0, 3), (0, 2)), ((3, 0),))]
([True, False, False], (2,), [True, True, False, False])
>>> why_moved(row, low, goal, 0)
raises CanNot()
>>> nearest_stand(row, one, torn)
raises CanNot()
'''

ROW, ONE, GOAL, TORN = row(3), (0, 0, 0), ((2, 3),), ((0, 0), (2, 3))
SMALL = [frame for frame in some_frames() if frame[0] <= 5]
NINE_ODD = (9, tuple(sorted([(jack, jack + 1) for jack in range(8)] + [(0, 2)])))
NINE = row(9)


def all_stands(frame, low, high):
    """All stands with heights from low to high, jack by jack."""
    found = [()]
    for jack in range(frame[0]):
        far = [own for own in range(jack) if (own, jack) in frame[1]]
        found = [head + (height,) for head in found for height in range(low, high + 1)
                 if all(abs(head[own] - height) <= 1 for own in far)]
    return found


def fits(stand, goal):
    return all(stand[jack] == height for jack, height in goal)


def all_ways(frame):
    """All ways: tuples of jacks, none twice, neighbours side by side."""
    ahead = [(jack,) for jack in range(frame[0])]
    found = []
    while ahead:
        way = ahead.pop()
        found.append(way)
        ahead += [way + (jack,) for jack in range(frame[0])
                  if jack not in way and (min(way[-1], jack), max(way[-1], jack)) in frame[1]]
    return found


def some_goal(maker, frame, low, high, most=3):
    jacks = sorted(maker.mixed(range(frame[0]))[:maker.below(most + 1)])
    return tuple((jack, maker.among(low, high)) for jack in jacks)


def made_goals(seed, many, frames=SMALL, low=-1, high=3):
    """Frames, stands and goals, some of which no stand fits."""
    maker = Maker(seed)
    for frame in frames:
        for _ in range(many):
            yield frame, maker.stand(frame, low, high), some_goal(maker, frame, low, high)


def fitting_goals(seed, many, frames=SMALL, low=-1, high=3):
    """Frames, stands and goals that some stand fits, most of them taken from one."""
    maker = Maker(seed)
    for frame in frames:
        for _ in range(many):
            aim = maker.stand(frame, low + 1, high + 2)
            jacks = sorted(maker.mixed(range(frame[0]))[:maker.below(4)])
            yield frame, maker.stand(frame, low, high), tuple((jack, aim[jack]) for jack in jacks)


def slow_nearest(frame, one, goal):
    """All stands, of those not far beyond, that fit and are between one and each that fits."""
    heights = list(one) + [height for _, height in goal]
    known = [stand for stand in all_stands(frame, min(heights) - 1, max(heights) + 1) if fits(stand, goal)]
    return known, [
        near for near in known
        if all(min(here, there) <= own <= max(here, there)
               for far in known for here, own, there in zip(one, near, far))]


class Goals(Case):

    def test_examples(self):
        self.examples(EXAMPLES, {**vars(goals), **vars(errors)})

    def test_what_is_a_goal(self):
        for frame, one, goal in made_goals(11, 4):
            self.assertIs(is_goal(frame, goal), True)
            self.assertIs(is_goal(listed(frame), goal), True)
            for wrong in (goal[::-1], goal + goal, listed(goal), goal + ((frame[0], 0),), ((-1, 0),) + goal):
                self.assertIs(is_goal(frame, wrong), wrong in ((), goal), wrong)
        self.assertIs(is_goal(frame=ROW, thing=((0, 10 ** 40), (2, -10 ** 40))), True)
        self.none_of(lambda thing: is_goal(ROW, thing), [thing for thing in NO_THINGS if thing != ((0, 1),)])
        self.none_of(lambda thing: is_goal(ROW, thing), [
            ((0, 1), (0, 1)), ((0, 1), (0, 2)), ((1, 1), (0, 1)), ((3, 1),), ((-1, 1),), ((0, None),), ((0, 1, 1),), (0, 1),
            ((0, 1), 1), [(0, 1)], ((True, 1),), ((0, 1), (True, 1)),
        ])

    def test_bars_beside_all_stands(self):
        shut = 0
        for frame, one, goal in made_goals(12, 8):
            heights = [height for _, height in goal] or [0]
            # What fits does so yet if all that is beyond the goal's heights is cut off there.
            wanted = any(fits(stand, goal) for stand in all_stands(frame, min(heights), max(heights)))
            self.assertIs(self.tell(can_fit, frame, goal), wanted)
            bars = [way for way in all_ways(frame) if len(way) > 1 and way[0] in dict(goal) and way[-1] in dict(goal)
                    and abs(dict(goal)[way[0]] - dict(goal)[way[-1]]) > len(way) - 1]
            self.assertIs(bars == [], wanted)
            for way in all_ways(frame):
                self.assertIs(is_goal_bar(frame, goal, way), way in bars)
            if bars:
                shut += 1
                told = self.tell(goal_bar, frame, goal)
                self.assertIn(told, bars)
                self.assertIs(self.tell(is_goal_bar, frame, goal, told), True)
                self.assertIs(is_goal_bar(frame, goal, listed(told)), False)
            else:
                self.refused(errors.CanNot, goal_bar, frame, goal)
        self.assertGreater(shut, 20)

    def test_what_is_no_way(self):
        goal = ((0, 0), (2, 9))
        for wrong in ((), (0,), (2,), (0, 2), (0, 1), (1, 2), (0, 1, 0, 1, 2), (0, 1, 2, 3), (0, True, 2), (0, 1, 2, 1, 2),
                      (-1, 0, 1, 2), (0, None, 2), (0, "1", 2), ((0, 1), 2), "012", [0, 1, 2]):
            self.assertIs(is_goal_bar(ROW, goal, wrong), False, wrong)
            self.assertIs(is_why_moved(ROW, (5, 5, 5), ((0, 9),), 2, wrong[::-1] if wrong != () else ()), False, wrong)
        self.assertIs(is_goal_bar(ROW, goal, (0, 1, 2)), True)
        self.none_of(lambda thing: is_goal_bar(ROW, goal, thing))
        self.none_of(lambda thing: is_why_moved(ROW, ONE, GOAL, 0, thing))
        # A way round is none shorter: its beams count.
        self.assertEqual([is_goal_bar(ring(5), ((0, 0), (2, 3)), way) for way in ((0, 1, 2), (0, 4, 3, 2))], [True, False])
        self.assertEqual([is_goal_bar(ring(5), ((0, 0), (2, 4)), way) for way in ((0, 1, 2), (0, 4, 3, 2))], [True, True])

    def test_nearest_beside_all_stands(self):
        moved = 0
        for frame, one, goal in fitting_goals(13, 4, low=0, high=2):
            known, best = slow_nearest(frame, one, goal)
            self.assertEqual(len(best), 1)
            self.assertEqual(self.tell(nearest_stand, frame, one, goal), best[0])
            self.assertEqual(nearest_stand(frame, best[0], goal), best[0])
            wanted = tuple(jack for jack in range(frame[0]) if one[jack] != best[0][jack])
            self.assertEqual(self.tell(must_move, frame, one, goal), wanted)
            moved += len(wanted)
        self.assertGreater(moved, 100)

    def test_who_must_move_by_a_search(self):
        for frame, one, goal in fitting_goals(14, 3, low=0, high=2):
            heights = list(one) + [height for _, height in goal]
            told = must_move(frame, one, goal)
            for jack in range(frame[0]):
                ways = cheapest_ways(
                    frame, one, min(heights), max(heights), lambda deed: None if deed[0] == jack else 1)
                self.assertIs(not any(fits(stand, goal) for stand in ways), jack in told)

    def test_reasons(self):
        seen = 0
        for frame, one, goal in fitting_goals(15, 4):
            near, told = nearest_stand(frame, one, goal), dict(goal)
            for jack in range(frame[0]):
                own = []
                for way in all_ways(frame):
                    if way[0] in told and way[-1] == jack and near[jack] != one[jack]:
                        beams = len(way) - 1
                        height = told[way[0]] - beams if near[jack] > one[jack] else told[way[0]] + beams
                        own += [way] if height == near[jack] else []
                    self.assertIs(is_why_moved(frame, one, goal, jack, way), way in own)
                self.assertIs(own != [], near[jack] != one[jack])
                if own:
                    seen += 1
                    reason = self.tell(why_moved, frame, one, goal, jack)
                    self.assertIn(reason, own)
                    self.assertIs(self.tell(is_why_moved, frame, one, goal, jack, reason), True)
                    for wrong in (listed(reason), reason + (jack,), reason[1:], (True,) + reason[1:], (jack,) + reason):
                        wanted = wrong in own and not any(part is True for part in wrong)
                        self.assertIs(is_why_moved(frame, one, goal, jack, wrong), wanted)
                else:
                    self.refused(errors.CanNot, why_moved, frame, one, goal, jack)
        self.assertGreater(seen, 100)

    def test_fewest_deeds_beside_a_search_to_all_that_fit(self):
        seen = 0
        for frame, one, goal in fitting_goals(16, 3, low=0, high=3):
            if frame[0] == 5 and len(frame[1]) < 5:
                continue
            near = nearest_stand(frame, one, goal)
            ways = even_ways(frame, one, [near])
            many = min(ways[stand] for stand in ways if fits(stand, goal))
            self.assertEqual(self.tell(fewest_to, frame, one, goal), many)
            self.assertEqual(many, ways[near])
            plan = self.tell(plan_to_goal, frame, one, goal)
            passed = walk(frame, one, plan)
            self.assertTrue(passed is not None and fits(passed[-1], goal) and len(plan) == many)
            self.assertIs(self.tell(is_plan_to_goal, frame, one, goal, plan), True)
            for wrong in (plan[1:], plan[:-1], listed(plan), plan + plan, plan[::-1]):
                passed = walk(frame, one, wrong) if isinstance(wrong, tuple) else None
                wanted = passed is not None and fits(passed[-1], goal) and len(wrong) == many
                self.assertIs(is_plan_to_goal(frame, one, goal, wrong), wanted)
            seen += many > 1
        self.assertGreater(seen, 20)

    def test_all_short_plans_are_judged(self):
        """All plans of up to three deeds: also those that lead to a stand that fits and is not the nearest."""
        elsewhere = 0
        for frame, one, goal in fitting_goals(17, 9, [row(2), row(3), ring(3), star(4), KITE], 0, 2):
            many = fewest_to(frame, one, goal)
            if many > 2:
                continue
            deeds = [(jack, height) for jack in range(frame[0]) for height in range(-1, 4)]
            for length in range(4 if frame[0] == 2 else many + 1):
                for plan in itertools.product(deeds, repeat=length):
                    passed = walk(frame, one, plan)
                    wanted = passed is not None and fits(passed[-1], goal) and length == many
                    self.assertIs(is_plan_to_goal(frame, one, goal, plan), wanted)
                    elsewhere += wanted and passed[-1] != nearest_stand(frame, one, goal)
        self.assertGreater(elsewhere, 0)
        self.assertIs(is_plan_to_goal(row(2), (0, 0), ((0, 2),), ((1, 1), (0, 2))), True)
        self.assertIs(is_plan_to_goal(row(2), (0, 0), ((0, 2),), ((0, 1), (1, 1), (0, 2))), False)
        self.assertIs(is_plan_to_goal(row(2), (0, 0), ((0, 2),), ((0, 1), (1, 2), (0, 2))), False)
        # Three deeds bring jack 0 to 3; it goes by 1 or jack 1 does, and that ends at 2 in each.
        for plan in (((0, 1), (1, 2), (0, 3)), ((1, 1), (0, 2), (1, 3), (0, 3))):
            self.assertIs(is_plan_to_goal(row(2), (0, 0), ((0, 3),), plan), len(plan) == 3)
        self.assertIs(is_plan_to_goal(row(2), (0, 0), ((0, 3),), ((0, 1), (1, 2), (0, 2))), False)

    def test_a_plan_to_another_stand_that_fits(self):
        # Jack 1 must come to 1 at least; at 2 it fits as well, in as many deeds where level 1 is passed.
        frame, one, goal = row(2), (1, 0), ((0, 2),)
        self.assertEqual((nearest_stand(frame, one, goal), fewest_to(frame, one, goal)), ((2, 1), 2))
        self.assertEqual([
            is_plan_to_goal(frame, one, goal, plan) for plan in (((1, 1), (0, 2)), ((1, 2), (0, 2)), ((0, 2), (1, 1)))
        ], [True, True, False])

    def test_parts_without_a_goal_stay(self):
        for frame in (APART, (4, ((0, 2), (1, 3))), (6, ((0, 1), (2, 3), (4, 5)))):
            steps, maker = lengths(frame), Maker(18)
            for _ in range(12):
                one, goal = maker.stand(frame, -2, 2), ((maker.below(frame[0]), maker.among(-4, 4)),)
                near = nearest_stand(frame, one, goal)
                for jack in range(frame[0]):
                    if steps[jack][goal[0][0]] is None:
                        self.assertEqual(near[jack], one[jack])
                        self.refused(errors.CanNot, why_moved, frame, one, goal, jack)
                self.assertTrue(stands(frame, near))

    def test_no_goal_at_all(self):
        for frame in SMALL:
            one = Maker(19).stand(frame, 0, 3)
            self.assertEqual(nearest_stand(frame, one, ()), one)
            self.assertEqual((must_move(frame, one, ()), fewest_to(frame, one, ())), ((), 0))
            self.assertEqual(plan_to_goal(frame, one, ()), ())
            self.assertEqual([is_plan_to_goal(frame, one, (), plan) for plan in ((), ((0, one[0] + 1),), [])],
                             [True, False, False])
            self.refused(errors.CanNot, goal_bar, frame, ())
            self.refused(errors.CanNot, why_moved, frame, one, (), 0)
            self.assertIs(is_why_moved(frame, one, (), 0, (0,)), False)

    def test_no_jack_is_asked_first(self):
        for jack in (-1, 3, 10 ** 6):
            for goal in (GOAL, TORN, ()):
                self.refused(errors.NoJack, why_moved, ROW, ONE, goal, jack, jack=jack)
                self.refused(errors.NoJack, is_why_moved, ROW, ONE, goal, jack, (0,), jack=jack)

    def test_goals_that_nothing_fits(self):
        far = ((0, 0), (2, 10 ** 6))
        for goal in (TORN, far):
            for function in (nearest_stand, must_move, fewest_to, plan_to_goal):
                self.refused(errors.CanNot, function, ROW, ONE, goal)
            self.refused(errors.CanNot, why_moved, ROW, ONE, goal, 1)
            for thing in (None, (), (2, 1, 0)):
                self.refused(errors.CanNot, is_why_moved, ROW, ONE, goal, 1, thing)
                self.refused(errors.CanNot, is_plan_to_goal, ROW, ONE, goal, thing)
            self.assertEqual((is_goal(ROW, goal), can_fit(ROW, goal)), (True, False))
        # Ahead of TooMany: for more than 480 levels, and for more than eight jacks.
        torn = ((0, 0), (1, 9))
        for function in (fewest_to, plan_to_goal):
            self.refused(errors.CanNot, function, ROW, (1000,) * 3, torn)
            self.refused(errors.CanNot, function, NINE_ODD, (0,) * 9, torn)
        self.refused(errors.CanNot, is_plan_to_goal, ROW, (1000,) * 3, torn, ())
        self.refused(errors.CanNot, is_plan_to_goal, NINE_ODD, (0,) * 9, torn, ())

    def test_too_many(self):
        pair = row(2)
        # From (0, 0) to 241 at jack 0, 240 at jack 1: 481 levels.
        for goal, many in ((((0, 241),), 481), (((0, -241),), 481), (((0, 240), (1, 240)), 480), (((0, 240),), 479)):
            for function in (fewest_to, plan_to_goal):
                if many > 480:
                    self.refused(errors.TooMany, function, pair, (0, 0), goal)
                    self.refused(errors.TooMany, is_plan_to_goal, pair, (0, 0), goal, None)
                else:
                    told = function(pair, (0, 0), goal)
                    self.assertEqual(told if function == fewest_to else len(told), fewest(pair, (0, 0), (240, many - 240)))
            self.assertEqual(sum(nearest_stand(pair, (0, 0), goal)), many if goal[0][1] > 0 else -many)
            self.assertEqual(must_move(pair, (0, 0), goal), (0, 1))
        for function in (fewest_to, plan_to_goal):
            self.refused(errors.TooMany, function, NINE_ODD, (0,) * 9, ((0, 3),))
            self.refused(errors.TooMany, function, NINE_ODD, (0,) * 9, ())
            function(NINE, (0,) * 9, ((0, 3),))
            function((8, NINE_ODD[1][:-1]), (0,) * 8, ((0, 3),))
        self.refused(errors.TooMany, is_plan_to_goal, NINE_ODD, (0,) * 9, (), ())
        self.assertEqual(why_moved(NINE_ODD, (0,) * 9, ((8, 9),), 0), (8, 7, 6, 5, 4, 3, 2, 0))

    def test_at_the_bounds(self):
        big = 10 ** 6
        for frame in (WIDE, WIDE_TWO, FLOOR, full(6), row(12), star(12)):
            n = frame[0]
            low, goal = (-big,) * n, ((0, big), (n - 1, big))
            self.assertTrue(can_fit(frame, goal))
            near = nearest_stand(frame, low, goal)
            self.assertTrue(stands(frame, near) and fits(near, goal))
            self.assertEqual(must_move(frame, low, goal), tuple(range(n)))
            for jack in range(n):
                self.assertTrue(is_why_moved(frame, low, goal, jack, why_moved(frame, low, goal, jack)))
            self.refused(errors.TooMany, fewest_to, frame, low, goal)
            self.assertTrue(is_goal_bar(frame, ((0, -big), (1, big)), goal_bar(frame, ((0, -big), (1, big)))))
        for frame in (WIDE_TWO, FLOOR):
            goal = tuple((jack, 40) for jack in range(12))
            plan = plan_to_goal(frame, (0,) * 12, goal)
            self.assertEqual(len(plan), fewest_to(frame, (0,) * 12, goal))
            self.assertTrue(is_plan_to_goal(frame, (0,) * 12, goal, plan))
        self.assertEqual(fewest_to(HOUSE, (0,) * 5, tuple((jack, 96) for jack in range(5))), fewest(HOUSE, (0,) * 5, (96,) * 5))
