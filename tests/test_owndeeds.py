"""Promise [16]: the own deeds of a jack and of lots of jacks, their papers, ranks; and of [3] TooMany for them."""

from evenlifts import errors, owndeeds
from evenlifts.couples import is_couples
from evenlifts.fewest import fewest
from evenlifts.frames import is_two_coloured
from evenlifts.owndeeds import (
    can_all, is_lot_plan, is_own_paper, least_for_each, lot_fewest, lot_plan, own_fewest, own_paper, ranked, ranked_plan,
)
from making import (
    Case, FLOOR, HOUSE, KITE, Maker, NO_THINGS, WIDE, WIDE_TWO, full, listed, pairs_of, ring, row, some_frames, walk,
)
from slowly import all_sets, cheapest_ways, lifted, made, odd_rounds, slow_passings

EXAMPLES = r'''
>>> row, flat, six = (3, ((0, 1), (1, 2))), (0, 0, 0), (6, 6, 6)
>>> own_fewest(row, flat, six, 1), least_for_each(row, (0, 1, 2), (4, 4, 4)), least_for_each(row, flat, flat)
(3, (2, 2, 1), (0, 0, 0))
>>> [lot_fewest(row, flat, six, own) for own in ((), (1,), (0, 1), (0, 2), (0, 1, 2))]
[0, 3, 7, 6, 10]
>>> [can_all(row, flat, six, own) for own in ((1,), (0, 2), (0, 1))], can_all(row, (0, 1, 2), (4, 4, 4), (0, 1, 2))
([True, True, False], True)
>>> is_lot_plan(row, flat, six, (0, 2), lot_plan(row, flat, six, (0, 2))), is_lot_plan((2, ((0, 1),)), (0, 0), (1, 1), (0,), ((1, 1), (0, 1)))
(True, True)
>>> is_own_paper(row, flat, six, (1,), (((1, 1), (1, 2)), ((1, 3), (1, 4)))), is_own_paper(row, flat, six, (1,), (((1, 1), (1, 2)),)), len(own_paper(row, flat, six, (0, 1)))
(True, False, 5)
>>> ranked(row, flat, six, ((1,), (0, 2))), ranked(row, flat, six, ((0, 2), (1,))), ranked(row, flat, six, ((0,), (1,), (2,)))
((3, 8), (6, 4), (3, 4, 3))
>>> hoop = (3, ((0, 1), (0, 2), (1, 2)))
>>> [lot_fewest(hoop, flat, (3, 3, 3), own) for own in ((0,), (0, 1), (0, 1, 2))], ranked(hoop, flat, (3, 3, 3), ((0,), (1,), (2,)))
([2, 4, 7], (2, 2, 3))
>>> own_paper(hoop, flat, (3, 3, 3), (0, 1, 2))
raises CanNot()
>>> own_fewest(row, flat, six, 3)
raises NoJack(jack=3)
>>> ranked(row, flat, six, ((0, 1), (1,)))
raises Unfit()
'''

ROW, FLAT, SIX, FAR = row(3), (0, 0, 0), (6, 6, 6), (1000, 1000, 1000)
HOOP = ring(3)
SMALL = [frame for frame in some_frames() if frame[0] <= 5]
PAPER = (((1, 1), (1, 2)), ((1, 3), (1, 4)))

# What are no sets of jacks of a row of three, and no tuples of such, no jack in two of them.
NO_LOTS = (None, 0, "a", (3,), (-1,), (0, 0), (1, 0), (0, None), (True,), (0, "1"), ((0,),), (0, 1, 2, 3), (False, 1))
NO_TUPLES_OF_LOTS = tuple((lot,) for lot in NO_LOTS) + (
    None, 0, "a", (0,), (0, 1), ((0,), (0,)), ((0, 1), (1,)), ((0,), (1,), (0,)), ((), (), (), (), ()), ((0,), None),
    ((0,), (1,), (2,), (), ()),
)


def apart(one, other, lot):
    return sum(abs(one[jack] - other[jack]) for jack in lot)


def slow_lot(frame, one, other, lot):
    """The fewest own deeds of lot, by a search over all stands that counts these alone."""
    low, high = min(one + other) - 1, max(one + other) + 1
    return cheapest_ways(frame, one, low, high, lambda deed: 1 if deed[0] in lot else 0)[other]


def slow_ranked(frame, one, other, lots):
    """The fewest own deeds of lots in their rank, by a search over all stands."""
    low, high = min(one + other) - 1, max(one + other) + 1
    worth = {jack: 1000 ** (len(lots) - 1 - at) for at, lot in enumerate(lots) for jack in lot}
    left = cheapest_ways(frame, one, low, high, lambda deed: worth.get(deed[0], 0))[other]
    found = []
    for at in range(len(lots)):
        found.append(left // 1000 ** (len(lots) - 1 - at) % 1000)
    return tuple(found)


def own_deeds(plan, lot):
    return len([deed for deed in plan if deed[0] in lot])


def some_lots(maker, n):
    """Up to four lots of jacks, no jack in two of them."""
    rows = [[] for _ in range(maker.among(0, 4))]
    for jack in range(n):
        place = maker.below(len(rows) + 1)
        if place < len(rows):
            rows[place].append(jack)
    return tuple(tuple(lot) for lot in rows)


class OwnDeeds(Case):

    def test_examples(self):
        self.examples(EXAMPLES, {**vars(owndeeds), **vars(errors)})

    def test_single_jacks(self):
        for frame, one, other in made(141, 2, 0, 14, -1, 3, SMALL):
            wanted = tuple(slow_lot(frame, one, other, (jack,)) for jack in range(frame[0]))
            self.assertEqual(self.tell(least_for_each, frame, one, other), wanted)
            for jack in range(frame[0]):
                self.assertEqual(self.tell(own_fewest, frame, one, other, jack), wanted[jack])
                self.assertEqual(wanted[jack], (abs(one[jack] - other[jack]) + 1) // 2)
                self.assertEqual(lot_fewest(frame, one, other, (jack,)), wanted[jack])

    def test_lots(self):
        maker = Maker(142)
        for frame, one, other in made(143, 4, 1, 12, -1, 3, SMALL):
            lot = tuple(jack for jack in range(frame[0]) if maker.below(2))
            many = slow_lot(frame, one, other, lot)
            self.assertEqual(self.tell(lot_fewest, frame, one, other, lot), many)
            own = [len([pair for pair in passing if pair[0] in lot]) for passing in slow_passings(frame, one, other)]
            self.assertEqual(many, apart(one, other, lot) - max(own))
            plan = self.tell(lot_plan, frame, one, other, lot)
            self.assertEqual((walk(frame, one, plan)[-1], own_deeds(plan, lot)), (other, many))
            self.assertIs(self.tell(is_lot_plan, frame, one, other, lot, plan), True)
            least = sum(slow_lot(frame, one, other, (jack,)) for jack in lot)
            self.assertIs(self.tell(can_all, frame, one, other, lot), many == least)
            each = [all(
                len([pair for pair in passing if pair[0] == jack]) == abs(one[jack] - other[jack]) // 2 for jack in lot)
                for passing in slow_passings(frame, one, other)]
            self.assertIs(can_all(frame, one, other, lot), any(each))

    def test_plans_of_any_kind(self):
        maker, seen = Maker(144), 0
        for frame in SMALL:
            for many in (2, 5, 9):
                one = maker.stand(frame, 0, 2)
                plan = maker.plan(frame, one, many, -1, 3)
                other = walk(frame, one, plan)[-1]
                for lot in all_sets(range(frame[0]), 2):
                    wanted = own_deeds(plan, lot) == lot_fewest(frame, one, other, lot)
                    self.assertIs(is_lot_plan(frame, one, other, lot, plan), wanted)
                    seen += wanted and own_deeds(plan, lot) > 0
                    for wrong in (plan[1:], plan + plan, listed(plan)):
                        if wrong != plan and (not isinstance(wrong, tuple) or walk(frame, one, wrong) is None):
                            self.assertIs(is_lot_plan(frame, one, other, lot, wrong), False)
        self.assertGreater(seen, 30)
        # What other jacks do, straight or not, is not counted.
        round_about = ((2, 1), (2, -1), (2, 0), (1, 1), (0, 1), (2, 1))
        self.assertIs(is_lot_plan(ROW, FLAT, (1, 1, 1), (0,), round_about), True)
        self.assertIs(is_lot_plan(ROW, FLAT, (1, 1, 1), (0, 1), round_about), True)
        self.assertIs(is_lot_plan(ROW, FLAT, (1, 1, 1), (0, 2), round_about), False)
        self.assertIs(is_lot_plan(ROW, FLAT, (1, 1, 1), (), round_about), True)

    def test_all_jacks_and_none(self):
        for frame, one, other in made(145, 2, 0, 14):
            every = tuple(range(frame[0]))
            self.assertEqual(lot_fewest(frame, one, other, every), fewest(frame, one, other))
            self.assertEqual(lot_fewest(frame, one, other, ()), 0)
            self.assertIs(can_all(frame, one, other, ()), True)
            self.assertIs(is_own_paper(frame, one, other, (), ()), True)
            self.assertEqual(own_paper(frame, one, other, ()), ())
            self.assertEqual(ranked(frame, one, other, ()), ())
            self.assertEqual(walk(frame, one, ranked_plan(frame, one, other, ()))[-1], other)
            self.assertEqual(ranked(frame, one, other, (every,)), (fewest(frame, one, other),))

    def test_lots_without_a_beam_between_add_up(self):
        for frame, one, other in made(146, 3, 0, 16):
            for lot in all_sets(range(frame[0]), 2):
                for more in all_sets([jack for jack in range(frame[0]) if jack not in lot], 2):
                    if not any((min(two), max(two)) in frame[1] for two in [(here, far) for here in lot for far in more]):
                        both = tuple(sorted(lot + more))
                        self.assertEqual(
                            lot_fewest(frame, one, other, both),
                            lot_fewest(frame, one, other, lot) + lot_fewest(frame, one, other, more))
                        break

    def test_own_papers(self):
        maker, odd = Maker(147), 0
        for frame, one, other in list(made(148, 4, 1, 12)) + list(lifted(149)) * 4:
            lot = tuple(jack for jack in range(frame[0]) if maker.below(3))
            pairs = [pair for pair in pairs_of(one, other) if pair[0] in lot]
            many = len(pairs) - max(
                len([pair for pair in own if pair[0] in lot]) for own in slow_passings(frame, one, other))
            rounds = [turn for turn in odd_rounds(frame, one, other) if set(turn) <= set(pairs)]
            if rounds:
                odd += 1
                self.refused(errors.CanNot, own_paper, frame, one, other, lot)
            else:
                paper = self.tell(own_paper, frame, one, other, lot)
                self.assertTrue(is_couples(frame, one, other, paper))
                self.assertEqual(len(paper), many)
                self.assertTrue(all(pair in pairs for own in paper for pair in own))
                self.assertIs(self.tell(is_own_paper, frame, one, other, lot, paper), True)
                for wrong in (paper[1:], listed(paper), paper + paper):
                    self.assertIs(is_own_paper(frame, one, other, lot, wrong), wrong == paper)
            if is_two_coloured(frame) or len(lot) == 1:
                self.assertEqual(rounds, [])
        self.assertGreater(odd, 3)

    def test_own_papers_beside_all_couples(self):
        for frame, one, other in made(150, 2, 2, 7):
            rows = [(near, far) for near, far in all_sets(pairs_of(one, other), 2)[len(pairs_of(one, other)) + 1:]]
            for lot in all_sets(range(frame[0]), 2):
                pairs = [pair for pair in pairs_of(one, other) if pair[0] in lot]
                many = len(pairs) - max(
                    len([pair for pair in own if pair[0] in lot]) for own in slow_passings(frame, one, other))
                for thing in all_sets(rows, 2):
                    wanted = (is_couples(frame, one, other, thing) and len(thing) == many
                              and all(pair in pairs for own in thing for pair in own))
                    self.assertIs(is_own_paper(frame, one, other, lot, thing), wanted)

    def test_own_papers_with_odd_rounds(self):
        # Two levels of a ring of three: two couples are as many as the pairs are more than a passing has.
        two = (2, 2, 2)
        self.refused(errors.CanNot, own_paper, HOOP, FLAT, two, (0, 1, 2))
        self.assertEqual(lot_fewest(HOOP, FLAT, two, (0, 1, 2)), 5)
        self.assertIs(is_own_paper(HOOP, FLAT, two, (0, 1, 2), (((0, 1), (1, 1)),)), False)
        self.assertIs(is_own_paper(HOOP, FLAT, two, (0, 1), (((0, 1), (1, 1)),)), True)
        # A ring of three and a jack at it: with odd rounds there can be a paper yet.
        one, other = (0, 0, 0, 0), (2, 2, 2, 2)
        self.refused(errors.CanNot, own_paper, KITE, one, other, (0, 1, 2, 3))
        self.assertIs(is_own_paper(KITE, one, other, (0, 1, 2, 3), (((0, 1), (1, 1)), ((2, 1), (3, 1)))), True)

    def test_ranked(self):
        maker = Maker(151)
        for frame, one, other in made(152, 4, 1, 12, -1, 3, SMALL):
            lots = some_lots(maker, frame[0])
            wanted = slow_ranked(frame, one, other, lots)
            self.assertEqual(self.tell(ranked, frame, one, other, lots), wanted)
            plan = self.tell(ranked_plan, frame, one, other, lots)
            self.assertEqual(walk(frame, one, plan)[-1], other)
            self.assertEqual(tuple(own_deeds(plan, lot) for lot in lots), wanted)
            known = slow_passings(frame, one, other)
            rows = [tuple(apart(one, other, lot) - own_deeds(passing, lot) for lot in lots) for passing in known]
            self.assertEqual(min(rows), wanted)
            if lots:
                self.assertEqual(wanted[0], lot_fewest(frame, one, other, lots[0]))

    def test_ranked_of_far_stands(self):
        # A pair of the first lot weighs more than all of the others together.
        row_of_two = row(2)
        self.assertEqual(ranked(row_of_two, (0, 0), (240, 240), ((0,), (1,))), (120, 121))
        self.assertEqual(ranked(row_of_two, (0, 0), (240, 240), ((1,), (0,))), (120, 121))
        told = ranked(ROW, FLAT, (160, 160, 160), ((1,), (0,), (2,)))
        self.assertEqual(told, (80, 81, 81))
        star = (5, ((0, 1), (0, 2), (0, 3), (0, 4)))
        one, other = (0,) * 5, (90,) * 5
        self.assertEqual(ranked(star, one, other, ((0,), (1, 2), (3, 4))), (45, 92, 92))
        self.assertEqual(ranked(star, one, other, ((1,), (2,), (3, 4), (0,))), (45, 45, 90, 46))

    def test_things_that_are_no_lot_plans(self):
        plan = lot_plan(ROW, FLAT, SIX, (0, 2))
        wrong = NO_THINGS + (
            (), plan[1:], plan[:-1], plan[::-1], list(plan), listed(plan), plan + plan, plan + (None,), (plan,),
            ((True, 1),) + plan[1:], ((0, 1, 1),) + plan[1:], tuple((jack, h) for h in range(1, 7) for jack in (0, 1, 2)),
        )
        self.none_of(lambda thing: is_lot_plan(ROW, FLAT, SIX, (0, 2), thing), wrong)
        self.assertIs(is_lot_plan(ROW, FLAT, SIX, (0, 2), plan), True)
        self.assertIs(is_lot_plan(ROW, FLAT, FLAT, (0, 2), ()), True)

    def test_things_that_are_no_own_papers(self):
        wrong = NO_THINGS + (
            (), PAPER[:1], PAPER[::-1], PAPER[:1] * 2, list(PAPER), listed(PAPER), (PAPER,), PAPER + (None,),
            PAPER + (((0, 1), (0, 2)),), (((0, 1), (0, 2)), ((1, 3), (1, 4))), (((1, 1), (1, 2)), ((1, 2), (1, 3))),
            (((1, 1), (1, 3)), ((1, 4), (1, 5))), (((1, 2), (1, 1)), ((1, 3), (1, 4))), (((0, 1), (1, 1)), PAPER[1]),
            (((True, 1), (1, 2)), PAPER[1]), (((1, True), (1, 2)), PAPER[1]), (((1, 0), (1, 1)), PAPER[1]),
        )
        self.none_of(lambda thing: is_own_paper(ROW, FLAT, SIX, (1,), thing), wrong)
        self.assertIs(is_own_paper(ROW, FLAT, SIX, (1,), PAPER), True)
        self.assertIs(is_own_paper(ROW, FLAT, SIX, (1,), (PAPER[0], ((1, 4), (1, 5)))), True)

    def test_unfit(self):
        self.unfit_stands(least_for_each)
        self.unfit_stands(own_fewest, 0)
        self.unfit_stands(own_fewest, 7)
        for function in (lot_fewest, lot_plan, can_all, own_paper, ranked, ranked_plan):
            self.unfit_stands(function, ())
        for function in (is_lot_plan, is_own_paper):
            self.unfit_stands(function, (), None)
        for lot in NO_LOTS:
            for other in (SIX, FAR):
                for function in (lot_fewest, lot_plan, can_all, own_paper):
                    self.refused(errors.Unfit, function, ROW, FLAT, other, lot)
                for function in (is_lot_plan, is_own_paper):
                    for thing in (None, (), PAPER):
                        self.refused(errors.Unfit, function, ROW, FLAT, other, lot, thing)
        for lots in NO_TUPLES_OF_LOTS:
            for other in (SIX, FAR):
                for function in (ranked, ranked_plan):
                    self.refused(errors.Unfit, function, ROW, FLAT, other, lots)
        self.assertEqual(ranked(ROW, FLAT, SIX, ((), (1,), (), (0, 2))), (0, 3, 0, 8))
        self.refused(errors.Unfit, lot_fewest, WIDE, (0,) * 12, (2,) * 12, (12,))
        self.refused(errors.Unfit, ranked, WIDE, (0,) * 12, (2,) * 12, ((0,), (0,)))

    def test_no_jack(self):
        for jack in (-1, 3, 10 ** 20):
            self.refused(errors.NoJack, own_fewest, ROW, FLAT, SIX, jack, jack=jack)
            # Here TooMany stands ahead of NoJack.
            self.refused(errors.TooMany, own_fewest, ROW, FLAT, FAR, jack)

    def test_too_many_levels(self):
        self.too_many_levels(least_for_each, lambda *told: ())
        self.too_many_levels(own_fewest, lambda *told: (1,))
        for function in (lot_fewest, lot_plan, can_all):
            self.too_many_levels(function, lambda *told: ((0,),))
            self.too_many_levels(function, lambda *told: ((0, 1),))
        self.too_many_levels(own_paper, lambda *told: ((1,),))
        for function in (is_lot_plan, is_own_paper):
            self.too_many_levels(function, lambda *told: ((0, 1), None))
            self.too_many_levels(function, lambda *told: ((0, 1), ()))
        for function in (ranked, ranked_plan):
            self.too_many_levels(function, lambda *told: (((0,), (1,)),))
            self.too_many_levels(function, lambda *told: ((),))
        pair, high = row(2), (240, 240)
        self.assertEqual(least_for_each(pair, (0, 0), high), (120, 120))
        self.assertEqual(lot_fewest(pair, (0, 0), high, (0, 1)), 241)
        self.assertEqual(len(own_paper(pair, (0, 0), high, (0, 1))), 239)
        self.assertIs(is_own_paper(pair, (0, 0), high, (0, 1), own_paper(pair, (0, 0), high, (0, 1))), True)
        self.assertIs(can_all(pair, (0, 0), high, (0, 1)), False)
        self.assertIs(is_lot_plan(pair, (0, 0), high, (1,), lot_plan(pair, (0, 0), high, (1,))), True)

    def test_too_many_jacks(self):
        for frame in (ring(9), ring(11), WIDE):
            n = frame[0]
            low, high = (0,) * n, (5,) * n
            for function in (lot_fewest, lot_plan, can_all):
                for lot in ((), (0,), (0, 1)):
                    self.refused(errors.TooMany, function, frame, low, high, lot)
                    self.refused(errors.TooMany, function, frame, low, low, lot)
            for function in (is_lot_plan, is_own_paper):
                for thing in (None, ()):
                    self.refused(errors.TooMany, function, frame, low, low, (), thing)
            for function in (ranked, ranked_plan):
                self.refused(errors.TooMany, function, frame, low, high, ())
                self.refused(errors.TooMany, function, frame, low, high, ((0,),))
            self.assertEqual(own_fewest(frame, low, high, n - 1), 3)
            self.refused(errors.NoJack, own_fewest, frame, low, high, n, jack=n)
            self.assertEqual(least_for_each(frame, low, high), (3,) * n)
            self.assertEqual(len(own_paper(frame, low, high, (1,))), 2)
            self.assertEqual(len(own_paper(frame, low, high, (0, 1))), 4)
            self.refused(errors.CanNot, own_paper, frame, low, high, tuple(range(n)))
        for frame in (full(8), WIDE_TWO, FLOOR, row(12)):
            n = frame[0]
            low, high = (0,) * n, (5,) * n
            self.assertEqual(lot_fewest(frame, low, high, (3,)), 3)
            self.assertIs(is_lot_plan(frame, low, high, (0, 5), lot_plan(frame, low, high, (0, 5))), True)

    def test_bounds(self):
        for frame in (WIDE_TWO, FLOOR, row(12), full(8), HOUSE):
            n, step = frame[0], 480 // frame[0]
            for base in (10 ** 6 - 480 // n, -10 ** 6):
                one, other = (base,) * n, (base + step,) * n
                half = tuple(range(0, n, 2))
                plan = lot_plan(frame, one, other, half)
                self.assertIs(is_lot_plan(frame, one, other, half, plan), True)
                self.assertEqual(own_deeds(plan, half), lot_fewest(frame, one, other, half))
                self.assertIn(can_all(frame, one, other, half), (True, False))
                self.assertEqual(own_fewest(frame, one, other, 0), (step + 1) // 2)
                lots = tuple(tuple(range(at, n, 4)) for at in range(4))
                told = ranked(frame, one, other, lots)
                plan = ranked_plan(frame, one, other, lots)
                self.assertEqual(tuple(own_deeds(plan, lot) for lot in lots), told)
                if is_two_coloured(frame):
                    paper = own_paper(frame, one, other, half)
                    self.assertIs(is_own_paper(frame, one, other, half, paper), True)
