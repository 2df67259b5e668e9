"""Promise [20]: level houses, closed forms of them, plans by colours, any slack; and of [3] TooMany for them."""

import itertools

from evenlifts import errors, levels
from evenlifts.fewest import fewest
from evenlifts.frames import colours, is_two_coloured, parts
from evenlifts.levels import (
    colour_plan, how_high, is_slack_plan, level_fewest, one_more, scaled, settled_at, slack_fewest, slack_plan, stretched,
    two_more,
)
from making import (
    APART, Case, FLOOR, HOUSE, KITE, Maker, NO_THINGS, WIDE, WIDE_TWO, full, listed, ring, row, small_frames, some_frames,
    star, walk,
)
from slowly import fewest_deeds

EXAMPLES = r'''
>>> row, ring = (4, ((0, 1), (1, 2), (2, 3))), (3, ((0, 1), (0, 2), (1, 2)))
>>> twin = (6, ((0, 1), (0, 2), (0, 3), (1, 4), (1, 5)))
>>> [level_fewest(row, own) for own in (0, 1, 2, 3, 4)], [level_fewest(twin, own) for own in (2, 3, 4, 6)], [level_fewest(ring, own) for own in (1, 2, 3, 4)]
([0, 4, 6, 8, 10], [8, 12, 15, 21], [3, 5, 7, 9])
>>> level_fewest(twin, 10 ** 30), [one_more(twin, own) for own in (0, 1, 2, 3)], how_high(twin, 14), how_high(ring, 10 ** 30)
(3000000000000000000000000000003, [6, 2, 4, 3], 3, 499999999999999999999999999999)
>>> [two_more(own) for own in (row, ring, twin)], [settled_at(own) for own in (row, ring, twin)]
([4, 4, 6], [1, 1, 3])
>>> colour_plan(row, 3), len(colour_plan(twin, 4)), colour_plan(row, 0)
(((0, 1), (2, 1), (1, 2), (3, 2), (0, 3), (2, 3), (1, 3), (3, 3)), 15, ())
>>> scaled((0, 4, 7, 5), 3), scaled((-4, -1), 3), slack_fewest(row, 7, 3)
((0, 2, 3, 2), (-1, 0), 8)
>>> wide = stretched(colour_plan(row, 3), 7, 3)
>>> wide, is_slack_plan(row, 7, 3, wide), is_slack_plan(row, 7, 3, slack_plan(row, 7, 3)), is_slack_plan(row, 7, 3, ((0, 7),))
(((0, 3), (2, 3), (1, 6), (3, 6), (0, 7), (2, 7), (1, 7), (3, 7)), True, True, False)
>>> colour_plan(ring, 2)
raises CanNot()
'''

TWIN = (6, ((0, 1), (0, 2), (0, 3), (1, 4), (1, 5)))
# Three jacks in a row, three more at each, and one more at each of these: settled late.
LATE = (12, tuple(sorted([(0, 1), (1, 2)] + [(0, jack) for jack in (3, 4, 5)] + [(1, jack) for jack in (6, 7, 8)]
                         + [(2, jack) for jack in (9, 10, 11)])))
LATER = (
    (12, ((0, 1), (0, 2), (0, 6), (0, 9), (1, 4), (2, 3), (2, 5), (2, 7), (2, 8), (2, 10), (4, 11))),
    (12, ((0, 1), (1, 2), (1, 5), (1, 7), (1, 10), (1, 11), (2, 3), (2, 4), (2, 8), (2, 9), (5, 6))),
    (12, ((0, 1), (0, 2), (0, 4), (0, 5), (0, 9), (0, 10), (2, 3), (2, 6), (2, 7), (2, 8), (2, 11))),
    (11, ((0, 1), (0, 2), (0, 3), (0, 8), (0, 10), (1, 5), (2, 4), (2, 6), (2, 7), (4, 9), (5, 8))),
)
NINE_ODD = (9, tuple(sorted([(jack, jack + 1) for jack in range(8)] + [(0, 2)])))
EIGHT_ODD = (8, tuple(sorted([(jack, jack + 1) for jack in range(7)] + [(0, 2)])))
TWO_COLOURED = [frame for frame in some_frames() if is_two_coloured(frame)] + [TWIN, LATE, FLOOR, WIDE_TWO, star(12)]
TWO_COLOURED += LATER
ODD_LATE = (7, ((0, 1), (0, 3), (0, 4), (0, 5), (1, 2), (1, 3), (1, 6), (2, 3), (3, 5)))
ODD = [frame for frame in some_frames() if not is_two_coloured(frame)] + [EIGHT_ODD, ODD_LATE]


def most_beams(frame):
    """How many beams without a common end there can be."""
    for many in range(frame[0] // 2, 0, -1):
        for beams in itertools.combinations(frame[1], many):
            if len({jack for beam in beams for jack in beam}) == 2 * many:
                return many


def lesser_classes(frame):
    """The jacks of the lesser classes of all parts."""
    colour, found = colours(frame), []
    for part in parts(frame):
        lots = [[jack for jack in part if colour[jack] == own] for own in (0, 1)]
        found += min(lots, key=len) if len(lots[0]) != len(lots[1]) else lots[colour[part[0]]]
    return sorted(found)


def slow_slack(frame, high, slack):
    """The fewest deeds from all at 0 to all at high, each leaving heights that differ by at most slack."""
    goal, edge, known, many = (high,) * frame[0], [(0,) * frame[0]], {(0,) * frame[0]}, 0
    while goal not in known:
        many += 1
        behind = []
        for stand in edge:
            for jack in range(frame[0]):
                for height in range(-slack, high + slack + 1):
                    moved = stand[:jack] + (height,) + stand[jack + 1:]
                    if moved not in known and holds(frame, moved, slack):
                        known.add(moved)
                        behind.append(moved)
        edge = behind
    return many


def holds(frame, stand, slack):
    return all(abs(stand[low] - stand[high]) <= slack for low, high in frame[1])


def raises_by(frame, high, slack, plan):
    """Whether a tuple of deeds, each to another height, leaves stands of slack and ends with all at high."""
    stand = (0,) * frame[0]
    for jack, height in plan:
        moved = stand[:jack] + (height,) + stand[jack + 1:]
        if moved == stand or not holds(frame, moved, slack):
            return False
        stand = moved
    return stand == (high,) * frame[0]


class Levels(Case):

    def test_examples(self):
        self.examples(EXAMPLES, {**vars(levels), **vars(errors)})

    def test_beside_a_search_over_all_stands(self):
        for frame in list(small_frames()) + [HOUSE, APART, ring(5), full(5), star(5)]:
            for high in range(4 if frame[0] < 5 else 3):
                wanted = fewest_deeds(frame, (0,) * frame[0], (high,) * frame[0])
                self.assertEqual(level_fewest(frame, high), wanted, (frame, high))

    def test_beside_fewest(self):
        for frame in TWO_COLOURED + ODD:
            for high in (0, 1, 2, 3, 4, 5, 7, 10, 13, 20, 40, 480 // frame[0]):
                if frame[0] * high <= 480:
                    wanted = fewest(frame, (5,) * frame[0], (5 + high,) * frame[0])
                    self.assertEqual(level_fewest(frame, high), wanted, (frame, high))
            for high in (0, 1, 2, 3, 6):
                self.tell(level_fewest, frame, high)
                wanted = level_fewest(frame, high + 1) - level_fewest(frame, high)
                self.assertEqual(self.tell(one_more, frame, high), wanted)

    def test_closed_forms_of_two_coloured_frames(self):
        for frame in TWO_COLOURED:
            n, less = frame[0], len(lesser_classes(frame))
            more = [level_fewest(frame, high) - n * high // 2 for high in range(2, 30, 2)]
            for high in (1, 3, 5, 9, 31, 10 ** 31 - 1):
                self.assertEqual(level_fewest(frame, high), n * (high + 1) // 2)
            self.assertEqual(more[0], most_beams(frame))
            self.assertEqual(more, sorted(more))
            self.assertEqual(more[-1], less)
            self.assertEqual(level_fewest(frame, 10 ** 31), n * 10 ** 31 // 2 + less)
            self.assertEqual(two_more(frame), n)
        for frame in (row(2), row(5), row(12), ring(4), ring(6), ring(12), FLOOR, WIDE_TWO):
            self.assertEqual(level_fewest(frame, 2), frame[0] + len(lesser_classes(frame)))
            self.assertEqual(settled_at(frame), 1)

    def test_settled_by_looking(self):
        late = 0
        for frame in TWO_COLOURED + ODD:
            steps = [level_fewest(frame, high + 2) - level_fewest(frame, high) for high in range(1, 40)]
            told = self.tell(two_more, frame)
            self.assertEqual(set(steps[20:]), {told})
            at = max([0] + [high for high, step in enumerate(steps, 1) if step != told]) + 1
            self.assertEqual(self.tell(settled_at, frame), at)
            late += at > 1
            for high in (at, at + 1, 10 ** 20, 10 ** 31 - 2):
                self.assertEqual(level_fewest(frame, high + 2) - level_fewest(frame, high), told)
        self.assertGreater(late, 5)
        self.assertEqual([settled_at(own) for own in (star(12), TWIN, ODD_LATE) + LATER], [1, 3, 3, 5, 7, 9, 3])

    def test_settled_late(self):
        """Frames that settle behind one, two, three steps of two levels."""
        for arms in (2, 3):
            for many in (2, 3):
                # many hubs in a row, arms jacks more at each.
                n = many * (arms + 1)
                beams = [(hub, hub + 1) for hub in range(many - 1)]
                beams += [(hub, many + hub * arms + arm) for hub in range(many) for arm in range(arms)]
                frame = (n, tuple(sorted(beams)))
                less = len(lesser_classes(frame))
                at = next(high for high in range(2, 40, 2) if level_fewest(frame, high) == n * high // 2 + less)
                self.assertEqual(settled_at(frame), 1 if at == 2 else at - 1)

    def test_a_level_more_costs_something(self):
        for frame in TWO_COLOURED + ODD:
            for high in list(range(14)) + [10 ** 30, 10 ** 31 - 1]:
                self.assertGreaterEqual(one_more(frame, high), 1)

    def test_how_high(self):
        for frame in TWO_COLOURED[:6] + ODD[:6] + [TWIN]:
            known = [level_fewest(frame, high) for high in range(70)]
            for many in range(0, 60):
                self.assertEqual(how_high(frame, many), max(high for high in range(70) if known[high] <= many))
            self.tell(how_high, frame, 23)
            for many in (10 ** 30, 10 ** 31 + 7):
                high = how_high(frame, many)
                self.assertTrue(level_fewest(frame, high) <= many < level_fewest(frame, high + 1))

    def test_plans_by_colours(self):
        for frame in TWO_COLOURED:
            less = lesser_classes(frame)
            for high in range(7):
                plan = self.tell(colour_plan, frame, high)
                wanted = [
                    (jack, min(step, high)) for step in range(1, high + 2) for jack in range(frame[0])
                    if (jack in less) == (step % 2 == 1)] if high else []
                self.assertEqual(plan, tuple(wanted))
                self.assertEqual(walk(frame, (0,) * frame[0], plan)[-1], (high,) * frame[0])
                if high % 2 == 1 or high == 0 or high > settled_at(frame):
                    self.assertEqual(len(plan), level_fewest(frame, high))
        self.assertEqual(len(colour_plan(TWIN, 2)), level_fewest(TWIN, 2) + 1)
        # Of classes as great as one another those of the least jack are taken; in each part by itself.
        self.assertEqual(colour_plan((5, ((0, 3), (1, 2), (1, 4))), 1), ((0, 1), (1, 1), (2, 1), (3, 1), (4, 1)))
        self.assertEqual(colour_plan((5, ((0, 3), (0, 4), (1, 2))), 1), ((0, 1), (1, 1), (2, 1), (3, 1), (4, 1)))
        self.assertEqual(colour_plan((5, ((0, 3), (1, 3), (2, 4))), 2),
                         ((2, 1), (3, 1), (0, 2), (1, 2), (4, 2), (2, 2), (3, 2)))

    def test_scaled(self):
        maker = Maker(21)
        for _ in range(40):
            heights, slack = tuple(maker.among(-40, 40) for _ in range(maker.among(1, 5))), maker.among(1, 9)
            told = self.tell(scaled, heights, slack)
            self.assertTrue(all((own - 1) * slack < height <= own * slack for own, height in zip(told, heights)))
            self.assertEqual(len(told), len(heights))
        self.assertEqual(scaled((10 ** 31, -10 ** 31), 3), (10 ** 31 // 3 + 1, -(10 ** 31 // 3)))

    def test_stretched(self):
        self.assertEqual(self.tell(stretched, ((0, 1), (1, 2), (0, 3), (1, 3)), 5, 2), ((0, 2), (1, 4), (0, 5), (1, 5)))
        self.assertEqual(self.tell(stretched, ((0, 1), (1, -2)), 0, 4), ((0, 0), (1, -8)))
        self.assertEqual(self.tell(stretched, (), 7, 3), ())
        self.assertEqual(stretched(((3, 10 ** 15), (0, 4)), 10 ** 31, 10 ** 15), ((3, 10 ** 30), (0, 4 * 10 ** 15)))

    def test_slack_beside_a_search(self):
        for frame in (row(2), row(3), ring(3), KITE, star(4)):
            for slack in (1, 2, 3):
                for high in range(5 if frame[0] < 4 else 4):
                    self.assertEqual(self.tell(slack_fewest, frame, high, slack), slow_slack(frame, high, slack))

    def test_slack_plans(self):
        for frame in TWO_COLOURED[:8] + ODD[:8] + [TWIN, FLOOR]:
            for high, slack in ((0, 1), (1, 1), (3, 1), (4, 2), (7, 3), (8, 3), (5, 9), (12, 5)):
                many = slack_fewest(frame, high, slack)
                self.assertEqual(many, level_fewest(frame, -(-high // slack)))
                plan = slack_plan(frame, high, slack)
                self.assertTrue(raises_by(frame, high, slack, plan))
                self.assertEqual(len(plan), many)
                self.assertIs(is_slack_plan(frame, high, slack, plan), True)
                for wrong in (plan[1:], plan[:-1], plan[::-1], listed(plan), plan + plan[-1:], plan[:-1] + (plan[0],)
                              if plan else None, plan[1:] + plan[:1], plan[:1] + plan[:1] + plan[2:]):
                    wanted = isinstance(wrong, tuple) and len(wrong) == many and raises_by(frame, high, slack, wrong)
                    self.assertIs(is_slack_plan(frame, high, slack, wrong), wanted, (high, slack, wrong))
                if is_two_coloured(frame):
                    wide = stretched(colour_plan(frame, scaled((high,), slack)[0]), high, slack)
                    self.assertTrue(raises_by(frame, high, slack, wide))
        for high, slack in ((3, 1), (7, 3)):
            self.tell(slack_plan, TWIN, high, slack)
            self.tell(is_slack_plan, TWIN, high, slack, slack_plan(TWIN, high, slack))

    def test_all_short_slack_plans_are_judged(self):
        seen = 0
        for frame, high, slack in ((row(2), 2, 1), (row(2), 3, 2), (row(2), 3, 3), (row(3), 2, 2), (row(2), 1, 4)):
            many = slack_fewest(frame, high, slack)
            deeds = [(jack, height) for jack in range(frame[0]) for height in range(-1, high + 2)]
            for length in range(many + 2 if len(deeds) < 10 else many + 1):
                for plan in itertools.product(deeds, repeat=length):
                    wanted = length == many and raises_by(frame, high, slack, plan)
                    self.assertIs(is_slack_plan(frame, high, slack, plan), wanted)
                    seen += wanted
        self.assertGreater(seen, 10)

    def test_what_is_no_slack_plan(self):
        self.none_of(lambda thing: is_slack_plan(row(3), 4, 2, thing))
        self.none_of(lambda thing: is_slack_plan(row(2), 1, 1, thing))
        self.none_of(lambda thing: is_slack_plan(row(3), 0, 2, thing))
        self.assertIs(is_slack_plan(row(3), 0, 2, ()), True)
        good = ((0, 1), (1, 1))
        self.assertIs(is_slack_plan(row(2), 1, 1, good), True)
        for wrong in (((0, 1), (1, True)), ((False, 1), (1, 1)), ((0, 1), (2, 1)), ((0, 1), (-1, 1)), ((0, 1), (1, 1, 1)),
                      ([0, 1], (1, 1)), ((0, 1), None), ((0, 1), "11"), ((0, 1), (1, "1")), good + ((1, 1),), (good,)):
            self.assertIs(is_slack_plan(row(2), 1, 1, wrong), False)

    def test_too_many_jacks(self):
        for high in (0, 1, 5, 10 ** 31):
            for function, more in ((level_fewest, ()), (one_more, ()), (how_high, ()), (slack_fewest, (3,)),
                                   (slack_plan, (3,)), (is_slack_plan, (3, ())), (is_slack_plan, (3, None))):
                self.refused(errors.TooMany, function, NINE_ODD, high, *more)
                self.refused(errors.TooMany, function, WIDE, high, *more)
                if function != slack_plan or high < 10:
                    function(EIGHT_ODD, high, *more)
                    function(row(9), high, *more)
        for function in (two_more, settled_at):
            self.refused(errors.TooMany, function, NINE_ODD)
            self.refused(errors.TooMany, function, WIDE)
            function(EIGHT_ODD)
            function(WIDE_TWO)
        # A plan by colours has another reason; what takes no frame has none.
        self.refused(errors.CanNot, colour_plan, NINE_ODD, 3)

    def test_too_many_levels(self):
        for frame, high in ((row(2), 240), (row(3), 160), (ring(4), 120), (FLOOR, 40), (row(7), 68)):
            zeros = (0,) * frame[0]
            self.assertEqual(walk(frame, zeros, colour_plan(frame, high))[-1], (high,) * frame[0])
            self.assertTrue(is_slack_plan(frame, high, 1, slack_plan(frame, high, 1)))
            for slack in (1, 7, 1000):
                self.refused(errors.TooMany, slack_plan, frame, high + 1, slack)
                self.refused(errors.TooMany, slack_plan, frame, 10 ** 31, slack)
                slack_fewest(frame, high + 1, slack)
                self.assertIs(is_slack_plan(frame, high + 1, slack, ()), False)
            self.refused(errors.TooMany, colour_plan, frame, high + 1)
            self.refused(errors.TooMany, colour_plan, frame, 10 ** 31)
        slack_plan(ring(3), 160, 1)
        self.refused(errors.TooMany, slack_plan, ring(3), 161, 1)
        # Behind CanNot.
        for high in (0, 160, 161, 10 ** 31):
            self.refused(errors.CanNot, colour_plan, ring(3), high)
        # A plan of more levels is judged: only telling one has a bound.
        wide = tuple((jack, 300) for jack in range(2)) + tuple((jack, 600) for jack in range(2))
        self.assertIs(is_slack_plan(row(2), 600, 300, wide), False)
        self.assertIs(is_slack_plan(row(2), 600, 300, ((0, 300), (1, 600), (0, 600))), True)
        self.assertIs(is_slack_plan(row(2), 10 ** 31, 10 ** 31, ((1, 10 ** 31), (0, 10 ** 31))), True)

    def test_at_the_bounds(self):
        high = 10 ** 31
        for frame in TWO_COLOURED + ODD:
            n = frame[0]
            told = level_fewest(frame, high)
            self.assertEqual(how_high(frame, told), high)
            self.assertEqual(how_high(frame, told - 1), high - 1)
            self.assertEqual(slack_fewest(frame, high, 10 ** 30), level_fewest(frame, 10))
            self.assertEqual(slack_fewest(frame, high, high), n)
            self.assertEqual(slack_fewest(frame, high, high - 1), level_fewest(frame, 2))
