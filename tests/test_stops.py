"""Promise [18]: stops of an inspector: cuts, what they cost, plans that come by, their papers; and of [3] TooMany."""

from evenlifts import errors, stops
from evenlifts.couples import greatest_couples, is_couples
from evenlifts.deeds import is_plan
from evenlifts.fewest import fewest
from evenlifts.passings import greatest_passing, is_passing
from evenlifts.stops import (
    cut_pairs, fewest_by, free_stops, is_stand_to_stop, is_stop_paper, is_visit_plan, jack_stop, stand_to_stop, stop_cost,
    stop_paper, visit_plan,
)
from making import (
    Case, FLOOR, HOUSE, KITE, Maker, NO_THINGS, WIDE, WIDE_TWO, full, listed, pairs_of, ring, row, some_frames, stands,
    walk,
)
from slowly import even_ways, made, slow_passings

EXAMPLES = r'''
>>> row, one, low, high = (3, ((0, 1), (1, 2))), (0, 0, 0), (2, 2, 2), (3, 3, 3)
>>> cut_pairs(row, one, high, (1, 2, 1)), [stop_cost(row, one, high, (own,)) for own in ((1, 1, 1), (1, 2, 1), (1, 0, 1), one)]
(((0, 1), (1, 2), (2, 1)), [1, 0, 0, 0])
>>> fewest_by(row, one, high, ()), fewest_by(row, one, high, ((1, 1, 1), low)), stop_cost(row, one, high, ((1, 2, 1), low)), stop_cost(row, one, low, ((0, 0, -1),))
(6, 9, 2, 2)
>>> free_stops(row, one, low), [[jack_stop(row, one, low, jack, own) for own in (0, 1, 2)] for jack in (0, 1)]
([(0, 0, 0), (0, 1, 0), (0, 1, 2), (2, 1, 0), (2, 1, 2), (2, 2, 2)], [[0, 1, 0], [0, 0, 0]])
>>> deeds = ((0, 1), (1, 1), (2, 2), (0, 2), (1, 2))
>>> [is_visit_plan(row, one, low, (own,), deeds) for own in ((1, 0, 0), (1, 1, 1))], [is_stand_to_stop(row, one, low, 0, 1, own) for own in ((1, 0, 0), (1, 1, 1))]
([True, False], [True, False])
>>> is_stop_paper(row, one, low, (1, 1, 1), (((0, 1), (2, 1)), (((0, 1), (1, 1)),), (), ()))
True
>>> cut_pairs(row, one, low, (0, 0, -1))
raises Unfit()
>>> jack_stop(row, one, low, 3, 1)
raises NoJack(jack=3)
'''

ROW, ONE, LOW, HIGH, FAR = row(3), (0, 0, 0), (2, 2, 2), (3, 3, 3), (1000, 1000, 1000)
SMALL = [frame for frame in some_frames() if frame[0] <= 5]
DEEDS = ((0, 1), (1, 1), (2, 2), (0, 2), (1, 2))
PAPER = (((0, 1), (2, 1)), (((0, 1), (1, 1)),), (), ())


def slow_between(frame, one, other):
    """All stands between, by trying all heights."""
    rows = [()]
    for here, there in zip(one, other):
        rows = [own + (height,) for own in rows for height in range(min(here, there), max(here, there) + 1)]
    return [own for own in rows if stands(frame, own)]


def slow_cut(one, other, middle):
    return tuple((jack, level) for jack, level in pairs_of(one, other) if middle[jack] == level)


def slow_by(frame, one, middles, other):
    """The fewest deeds by way of middles, by searches over all stands."""
    row_of_all = (one,) + middles + (other,)
    return sum(even_ways(frame, near, [far])[far] for near, far in zip(row_of_all, row_of_all[1:]))


def comes_by(stands_of, middles):
    """Whether middles stand at moments of a plan, in this order, maybe at one."""
    if not middles:
        return True
    for at, stand in enumerate(stands_of):
        if stand == middles[0]:
            return comes_by(stands_of[at:], middles[1:])
    return False


class Stops(Case):

    def test_examples(self):
        self.examples(EXAMPLES, {**vars(stops), **vars(errors)})

    def test_cuts(self):
        for frame, one, other in made(181, 3, 0, 12):
            for middle in slow_between(frame, one, other)[::7]:
                self.assertEqual(self.tell(cut_pairs, frame, one, other, middle), slow_cut(one, other, middle))
            self.assertEqual(cut_pairs(frame, one, other, one), ())
            self.assertEqual(cut_pairs(frame, one, other, other), ())

    def test_what_a_stand_between_costs(self):
        for frame, one, other in made(182, 3, 1, 12, -1, 3, SMALL):
            ways, back = even_ways(frame, one, [other]), even_ways(frame, other, [one])
            known = slow_passings(frame, one, other)
            most = max(len(own) for own in known)
            for middle in slow_between(frame, one, other)[::5]:
                cost = ways[middle] + back[middle] - ways[other]
                self.assertEqual(self.tell(stop_cost, frame, one, other, (middle,)), cost)
                self.assertEqual(self.tell(fewest_by, frame, one, other, (middle,)), ways[other] + cost)
                cut = slow_cut(one, other, middle)
                left = max(len(own) for own in known if not set(own) & set(cut))
                self.assertEqual(cost, most - left)

    def test_several_stands_between(self):
        maker = Maker(183)
        for frame, one, other in made(184, 3, 1, 12, -1, 3, SMALL):
            first = maker.one_of(slow_between(frame, one, other))
            later = maker.one_of(slow_between(frame, first, other))
            known = slow_passings(frame, one, other)
            cut = set(slow_cut(one, other, first)) | set(slow_cut(one, other, later))
            left = max(len(own) for own in known if not set(own) & cut)
            cost = max(len(own) for own in known) - left
            self.assertEqual(self.tell(stop_cost, frame, one, other, (first, later)), cost)
            self.assertEqual(stop_cost(frame, one, other, (first, first, later)), cost)

    def test_stands_of_any_kind(self):
        maker = Maker(185)
        for frame in SMALL:
            for many in (0, 1, 2, 3):
                one, other = maker.stand(frame, 0, 3), maker.stand(frame, 0, 3)
                middles = tuple(maker.stand(frame, -1, 4) for _ in range(many))
                wanted = slow_by(frame, one, middles, other)
                self.assertEqual(self.tell(fewest_by, frame, one, other, middles), wanted)
                self.assertEqual(self.tell(stop_cost, frame, one, other, middles), wanted - slow_by(frame, one, (), other))
                plan = self.tell(visit_plan, frame, one, other, middles)
                seen = walk(frame, one, plan)
                self.assertEqual((len(plan), seen[-1]), (wanted, other))
                self.assertTrue(comes_by(seen, middles))
                self.assertIs(self.tell(is_visit_plan, frame, one, other, middles, plan), True)
                self.check_visits(frame, one, other, plan)

    def check_visits(self, frame, one, other, plan):
        """A plan comes by stands of it in their order, as few as there can be, and by none the other way round."""
        seen = walk(frame, one, plan)
        for near in range(0, len(seen), 3):
            for far in range(0, len(seen), 2):
                middles = (seen[near], seen[far])
                wanted = near <= far and len(plan) == fewest_by(frame, one, other, middles)
                if near <= far or seen[near] not in seen[far:]:
                    self.assertIs(is_visit_plan(frame, one, other, middles, plan), wanted)

    def test_free_stops(self):
        for frame, one, other in made(186, 3, 0, 12, -1, 3, SMALL):
            ways, back = even_ways(frame, one, [other]), even_ways(frame, other, [one])
            wanted = [own for own in slow_between(frame, one, other) if ways[own] + back[own] == ways[other]]
            self.assertEqual(self.tell(free_stops, frame, one, other), wanted)
            known = slow_passings(frame, one, other)
            most = max(len(own) for own in known)
            free = [own for own in slow_between(frame, one, other) if any(
                len(passing) == most and not set(passing) & set(slow_cut(one, other, own)) for passing in known)]
            self.assertEqual(free, wanted)

    def test_jacks_that_stop(self):
        for frame, one, other in made(187, 2, 0, 12, -1, 3, SMALL):
            ways, back = even_ways(frame, one, [other]), even_ways(frame, other, [one])
            costs = {own: ways[own] + back[own] - ways[other] for own in slow_between(frame, one, other)}
            for jack in range(frame[0]):
                for height in range(min(one[jack], other[jack]) - 1, max(one[jack], other[jack]) + 2):
                    rows = [own for own in costs if own[jack] == height]
                    if not min(one[jack], other[jack]) <= height <= max(one[jack], other[jack]):
                        self.refused(errors.Unfit, jack_stop, frame, one, other, jack, height)
                        self.refused(errors.Unfit, stand_to_stop, frame, one, other, jack, height)
                        self.refused(errors.Unfit, is_stand_to_stop, frame, one, other, jack, height, one)
                        continue
                    least = min(costs[own] for own in rows)
                    self.assertEqual(self.tell(jack_stop, frame, one, other, jack, height), least)
                    told = self.tell(stand_to_stop, frame, one, other, jack, height)
                    self.assertIn(told, rows)
                    self.assertEqual(costs[told], least)
                    for own in list(costs)[:: len(costs) // 12 + 1] + [told]:
                        self.assertIs(is_stand_to_stop(frame, one, other, jack, height, own),
                                      own in rows and costs[own] == least)
                    self.assertIs(self.tell(is_stand_to_stop, frame, one, other, jack, height, told), True)

    def test_stop_papers(self):
        maker, two, papers = Maker(188), 0, 0
        for frame, one, other in made(189, 4, 1, 10, -1, 3):
            middle = maker.one_of(slow_between(frame, one, other))
            cut = slow_cut(one, other, middle)
            pairs = pairs_of(one, other)
            known = slow_passings(frame, one, other)
            full_ones = [own for own in known if len(own) == max(map(len, known))]
            bare = [own for own in known if not set(own) & set(cut)]
            bare_ones = [own for own in bare if len(own) == max(map(len, bare))]
            try:
                paper = stop_paper(frame, one, other, middle)
            except errors.CanNot:
                self.assertIn(frame, [own for own in some_frames() if not is_two(own)])
                continue
            two += 1
            self.assertTrue(is_two(frame))
            self.assertEqual(self.tell(stop_paper, frame, one, other, middle), paper)
            self.assertIn(paper[0], full_ones)
            self.assertIn(paper[2], bare_ones)
            self.assertEqual(len(paper[0]) - len(paper[2]), stop_cost(frame, one, other, (middle,)))
            self.assertTrue(is_couples(frame, one, other, paper[1]) and is_couples(frame, one, other, paper[3]))
            self.assertEqual(len(paper[0]), len(pairs) - len(paper[1]))
            self.assertEqual(len(paper[2]), len(pairs) - len(cut) - len(paper[3]))
            self.assertFalse([pair for own in paper[3] for pair in own if pair in cut])
            self.assertIs(self.tell(is_stop_paper, frame, one, other, middle, paper), True)
            papers += self.check_papers(frame, one, other, middle, paper, known)
        self.assertGreater(min(two, papers), 20)

    def check_papers(self, frame, one, other, middle, paper, known):
        """Papers with another passing, or with couples less: judged as the document says it."""
        cut, pairs = slow_cut(one, other, middle), pairs_of(one, other)
        seen = 0
        for passing in known[:: len(known) // 15 + 1]:
            fits = len(passing) == len(pairs) - len(paper[1])
            self.assertIs(is_stop_paper(frame, one, other, middle, (passing,) + paper[1:]), fits)
            fits = len(passing) == len(paper[2]) and not set(passing) & set(cut)
            thing = paper[:2] + (passing,) + paper[3:]
            self.assertIs(is_stop_paper(frame, one, other, middle, thing), fits)
            seen += fits
        for at in (1, 3):
            if paper[at]:
                less = paper[:at] + (paper[at][1:],) + paper[at + 1:]
                self.assertIs(is_stop_paper(frame, one, other, middle, less), False)
        changed = paper[:3] + (paper[1],)
        in_cut = [pair for own in paper[1] for pair in own if pair in cut]
        fits = not in_cut and len(paper[1]) == len(paper[3])
        self.assertIs(is_stop_paper(frame, one, other, middle, changed), fits)
        return seen > 0

    def test_papers_of_frames_that_are_not_two_coloured(self):
        one, other = (0, 0, 0, 0), (2, 2, 2, 2)
        # At one level of KITE two jacks can be passed, and two couples show it.
        full_one, couples = ((0, 1), (3, 1)), (((0, 1), (1, 1)), ((2, 1), (3, 1)))
        middle = (1, 1, 1, 2)
        self.assertEqual(cut_pairs(KITE, one, other, middle), ((0, 1), (1, 1), (2, 1)))
        self.assertIs(is_stop_paper(KITE, one, other, middle, (full_one, couples, ((3, 1),), ())), True)
        self.assertIs(is_stop_paper(KITE, one, other, middle, (full_one, couples, (), ())), False)
        self.assertEqual(stop_cost(KITE, one, other, (middle,)), 1)
        self.refused(errors.CanNot, stop_paper, KITE, one, other, middle)

    def test_things_that_are_no_stop_papers(self):
        middle = (1, 1, 1)
        full_one, couples, bare, rest = PAPER
        wrong = NO_THINGS + (
            (), PAPER[:3], PAPER + ((),), list(PAPER), listed(PAPER), (PAPER,), (couples, full_one, bare, rest),
            (full_one[:1], couples, bare, rest), (full_one, (), bare, rest), (full_one, couples, full_one, rest),
            (full_one, couples, full_one[:1], rest), (full_one, couples, bare, couples), (full_one[::-1], couples, bare, rest),
            (None, couples, bare, rest), (full_one, None, bare, rest), (full_one, couples, None, rest),
            (full_one, couples, bare, None), (((False, 1), (2, 1)), couples, bare, rest), (((1, 1),), couples, bare, rest),
            (full_one, (((0, 1), (2, 1)),), bare, rest), (full_one, (((1, 1), (0, 1)),), bare, rest),
            (full_one, (((0, 1), (1, True)),), bare, rest), (list(full_one), couples, bare, rest), (1, 2, 3, 4),
        )
        self.none_of(lambda thing: is_stop_paper(ROW, ONE, LOW, middle, thing), wrong)
        self.assertIs(is_stop_paper(ROW, ONE, LOW, middle, PAPER), True)
        self.assertIs(is_stop_paper(ROW, ONE, LOW, middle, (full_one, (((1, 1), (2, 1)),), bare, rest)), True)
        self.assertIs(is_stop_paper(ROW, ONE, LOW, ONE, (full_one, couples, full_one, couples)), True)

    def test_things_that_are_no_visit_plans(self):
        middles = ((1, 0, 0), (1, 1, 0))
        wrong = NO_THINGS + (
            (), DEEDS[1:], DEEDS[:-1], DEEDS[::-1], list(DEEDS), listed(DEEDS), DEEDS + DEEDS, DEEDS + (None,), (DEEDS,),
            ((False, 1),) + DEEDS[1:], ((0, True),) + DEEDS[1:], ((0, 1, 0),) + DEEDS[1:], DEEDS + ((0, 1), (0, 2)),
            ((1, 1), (0, 1), (2, 2), (0, 2), (1, 2)),
        )
        self.none_of(lambda thing: is_visit_plan(ROW, ONE, LOW, middles, thing), wrong)
        self.assertIs(is_visit_plan(ROW, ONE, LOW, middles, DEEDS), True)
        self.assertIs(is_visit_plan(ROW, ONE, LOW, middles[::-1], DEEDS), False)
        # Ahead of all, behind the last deed, and several at one moment.
        self.assertIs(is_visit_plan(ROW, ONE, LOW, (ONE, ONE) + middles + middles[1:] + (LOW, LOW), DEEDS), True)
        self.assertIs(is_visit_plan(ROW, ONE, ONE, (), ()), True)
        self.assertIs(is_visit_plan(ROW, ONE, ONE, (ONE,), ()), True)
        self.assertIs(is_visit_plan(ROW, ONE, LOW, (), DEEDS), False)

    def test_things_that_are_no_stands_to_stop(self):
        wrong = NO_THINGS + (
            (), (1, 0), (1, 0, 0, 0), [1, 0, 0], (True, 0, 0), (1, False, 0), (1, 0, None), (1, 2, 0), (1, 0, -1), (1, -1, 0),
            (0, 0, 0), (2, 1, 1), (1, 1, 1), ((1, 0, 0),), "100",
        )
        self.none_of(lambda thing: is_stand_to_stop(ROW, ONE, LOW, 0, 1, thing), wrong)
        self.assertIs(is_stand_to_stop(ROW, ONE, LOW, 0, 1, (1, 0, 0)), True)
        self.assertIs(is_stand_to_stop(ROW, ONE, LOW, 0, 0, (0, 0, 0)), True)
        self.assertIs(is_stand_to_stop(ROW, ONE, LOW, 0, 0, (0, 1, 1)), False)

    def test_unfit_middles(self):
        for middle in ((0, 0, -1), (3, 3, 3), (2, 2, 3), (1, 2, 3), (-1, 0, 0)):
            for other in (LOW, (2, 2, 1)):
                self.refused(errors.Unfit, cut_pairs, ROW, ONE, other, middle)
                self.refused(errors.Unfit, stop_paper, ROW, ONE, other, middle)
                for thing in (None, PAPER):
                    self.refused(errors.Unfit, is_stop_paper, ROW, ONE, other, middle, thing)
        # Ahead of TooMany, and of CanNot.
        for function in (cut_pairs, stop_paper):
            self.refused(errors.Unfit, function, ROW, ONE, FAR, (-1, 0, 0))
            self.refused(errors.Unfit, function, ROW, ONE, LOW, FAR)
            self.refused(errors.Unfit, function, KITE, (0,) * 4, (2,) * 4, (3,) * 4)

    def test_no_jack_then_unfit_then_too_many(self):
        for jack in (-1, 3, 10 ** 20):
            for other in (LOW, FAR):
                for height in (0, 1, 9999):
                    self.refused(errors.NoJack, jack_stop, ROW, ONE, other, jack, height, jack=jack)
                    self.refused(errors.NoJack, stand_to_stop, ROW, ONE, other, jack, height, jack=jack)
                    self.refused(errors.NoJack, is_stand_to_stop, ROW, ONE, other, jack, height, ONE, jack=jack)
        for height in (-1, 1001, 10 ** 20):
            self.refused(errors.Unfit, jack_stop, ROW, ONE, FAR, 0, height)
            self.refused(errors.Unfit, stand_to_stop, ROW, ONE, FAR, 0, height)
            self.refused(errors.Unfit, is_stand_to_stop, ROW, ONE, FAR, 0, height, None)
        for height in (0, 1, 1000):
            self.refused(errors.TooMany, jack_stop, ROW, ONE, FAR, 0, height)
            self.refused(errors.TooMany, stand_to_stop, ROW, ONE, FAR, 0, height)
            self.refused(errors.TooMany, is_stand_to_stop, ROW, ONE, FAR, 0, height, None)
        nine, low, high = ring(9), (0,) * 9, (2,) * 9
        self.refused(errors.NoJack, jack_stop, nine, low, high, 9, 1, jack=9)
        self.refused(errors.Unfit, jack_stop, nine, low, high, 0, 3)

    def test_too_many_levels(self):
        for function in (fewest_by, stop_cost, visit_plan):
            self.too_many_levels(function, lambda *told: ((),))
        self.too_many_levels(is_visit_plan, lambda *told: ((), None))
        self.too_many_levels(free_stops, lambda *told: (), False)
        self.too_many_levels(jack_stop, lambda frame, low, other: (0, low[0]))
        self.too_many_levels(stand_to_stop, lambda frame, low, other: (0, low[0]))
        self.too_many_levels(is_stand_to_stop, lambda frame, low, other: (0, low[0], None))

    def test_too_many_levels_side_by_side(self):
        pair, one, here, far = row(2), (0, 0), (240, 240), (480, 480)
        # No two side by side are farther apart than they may be, one and other are.
        self.assertEqual(fewest_by(pair, one, far, (here,)), 482)
        self.assertEqual(stop_cost(pair, one, far, (here,)), 1)
        plan = visit_plan(pair, one, far, (here,))
        self.assertIs(is_plan(pair, one, far, plan), True)
        self.assertIs(is_visit_plan(pair, one, far, (here,), plan), True)
        self.assertEqual(cut_pairs(pair, one, far, here), ((0, 240), (1, 240)))
        paper = stop_paper(pair, one, far, here)
        self.assertEqual((len(paper[0]), len(paper[2])), (479, 478))
        self.assertIs(is_stop_paper(pair, one, far, here, paper), True)
        for middles in ((), ((241, 240),), ((239, 240),), (here, far, here, (240, -1)), (one, here, one, (241, 241), far)):
            for function in (fewest_by, stop_cost, visit_plan):
                self.refused(errors.TooMany, function, pair, one, far, middles)
            for thing in (None, plan):
                self.refused(errors.TooMany, is_visit_plan, pair, one, far, middles, thing)
        for middle in ((241, 240), (239, 240)):
            self.refused(errors.TooMany, cut_pairs, pair, one, far, middle)
            self.refused(errors.TooMany, stop_paper, pair, one, far, middle)
            self.refused(errors.TooMany, is_stop_paper, pair, one, far, middle, None)
        for there in ((480, 481), (481, 480)):
            for function in (cut_pairs, stop_paper):
                self.refused(errors.TooMany, function, pair, one, there, here)
        # A middle that is far off, though one and other are not.
        for function in (fewest_by, stop_cost, visit_plan):
            self.refused(errors.TooMany, function, pair, one, here, ((-1, 0),))
            self.refused(errors.TooMany, function, pair, one, one, ((10 ** 6, 10 ** 6),))
        self.assertEqual(stop_cost(pair, one, (1, 1), (here,)), 241 + 240 - 2)
        # Ahead of CanNot for what is not two-coloured.
        self.refused(errors.TooMany, stop_paper, ring(3), ONE, (500, 500, 500), ONE)
        self.refused(errors.CanNot, stop_paper, ring(3), ONE, (160, 160, 160), ONE)

    def test_too_many_jacks(self):
        for frame in (ring(9), ring(11), WIDE):
            n = frame[0]
            low, high, middle = (0,) * n, (3,) * n, (1,) * n
            for function in (fewest_by, stop_cost, visit_plan):
                for middles in ((), (middle,), (low,)):
                    self.refused(errors.TooMany, function, frame, low, high, middles)
                    self.refused(errors.TooMany, function, frame, low, low, middles)
            self.refused(errors.TooMany, is_visit_plan, frame, low, low, (), ())
            self.refused(errors.TooMany, free_stops, frame, low, low)
            self.refused(errors.TooMany, jack_stop, frame, low, high, 0, 0)
            self.refused(errors.TooMany, stand_to_stop, frame, low, high, 0, 0)
            self.refused(errors.TooMany, is_stand_to_stop, frame, low, high, 0, 0, low)
            self.assertEqual(cut_pairs(frame, low, high, middle), tuple((jack, 1) for jack in range(n)))
            self.refused(errors.CanNot, stop_paper, frame, low, high, middle)
            self.assertIs(is_stop_paper(frame, low, high, middle, ((), (), (), ())), False)
            there = (2,) + (1,) * (n - 1)
            self.assertIs(is_stop_paper(frame, low, there, low, (((0, 1),), (), ((0, 1),), ())), True)
            self.assertIs(is_stop_paper(frame, low, there, middle, (((0, 1),), (), (), ())), True)
        for frame in (full(8), WIDE_TWO, FLOOR, row(12)):
            n = frame[0]
            low, high, middle = (0,) * n, (3,) * n, (1,) * n
            self.assertGreaterEqual(stop_cost(frame, low, high, (middle,)), 0)
            self.assertIn(jack_stop(frame, low, high, 3, 2), (0, 1))

    def test_free_stops_just_enough(self):
        apart = (4, ((0, 1), (2, 3)))
        for frame, one, other, many in (
            (row(2), (0, 0), (166, 167), 500), (row(2), (0, 0), (167, 167), 502), (row(4), (0,) * 4, (19,) * 4, 500),
            (apart, (0, 1, 0, 0), (2, 1, 55, 56), 501), (apart, (0, 1, 0, 0), (2, 1, -55, -55), 498),
            (ring(3), (0, 0, 0), (71, 71, 72), 499), (ring(3), (0, 0, 0), (71, 72, 72), 501),
            (KITE, (0,) * 4, (24, 24, 25, 24), 500), (KITE, (0,) * 4, (24, 25, 24, 24), 501),
        ):
            self.assertEqual(len(slow_between(frame, one, other)), many)
            for near, far in ((one, other), (other, one)):
                if many > 500:
                    self.refused(errors.TooMany, free_stops, frame, near, far)
                else:
                    self.check_free(frame, near, far)

    def check_free(self, frame, one, other):
        """What is told costs nothing, as stop_cost has it of each; what is not costs something."""
        told = free_stops(frame, one, other)
        known = slow_between(frame, one, other)
        self.assertTrue(set(told) <= set(known))
        for own in known[::25] + [one, other]:
            self.assertIs(own in told, stop_cost(frame, one, other, (own,)) == 0)

    def test_bounds(self):
        maker = Maker(190)
        for frame in (WIDE_TWO, FLOOR, row(12), full(8), HOUSE):
            n, step = frame[0], 480 // frame[0]
            for base in (10 ** 6 - 480 // n, -10 ** 6):
                one, other = (base,) * n, (base + step,) * n
                middle = maker.stand(frame, base + 3, base + step - 3)
                cost = stop_cost(frame, one, other, (middle,))
                self.assertEqual(fewest_by(frame, one, other, (middle,)), fewest(frame, one, other) + cost)
                plan = visit_plan(frame, one, other, (middle,))
                self.assertIs(is_visit_plan(frame, one, other, (middle,), plan), True)
                self.assertIn(middle, walk(frame, one, plan))
                height = base + step // 2
                told = stand_to_stop(frame, one, other, 1, height)
                self.assertEqual(stop_cost(frame, one, other, (told,)), jack_stop(frame, one, other, 1, height))
                self.assertIs(is_stand_to_stop(frame, one, other, 1, height, told), True)
                self.refused(errors.TooMany, free_stops, frame, one, other)
                if is_two(frame):
                    paper = stop_paper(frame, one, other, middle)
                    self.assertIs(is_stop_paper(frame, one, other, middle, paper), True)
                    self.assertEqual(len(paper[0]) - len(paper[2]), cost)

    def test_papers_hold_what_greatest_ones_are(self):
        for frame, one, other in made(191, 2, 0, 16):
            if is_two(frame):
                paper = stop_paper(frame, one, other, one)
                self.assertEqual(len(paper[0]), len(greatest_passing(frame, one, other)))
                self.assertEqual(len(paper[1]), len(greatest_couples(frame, one, other)))
                self.assertIs(is_passing(frame, one, other, paper[2]), True)


def is_two(frame):
    """Whether a frame is two-coloured, by trying all colours."""
    return any(
        all((marks >> low) & 1 != (marks >> high) & 1 for low, high in frame[1]) for marks in range(2 ** frame[0]))
