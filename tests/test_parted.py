"""Promise [8]: plans taken apart."""

import itertools

from evenlifts import errors, parted
from evenlifts.deeds import is_plan
from evenlifts.parted import (
    apart, cut_off, is_apart, is_cut, is_forward, kept_deeds, never_back, saved, woven,
)
from making import Case, Maker, NO_THINGS, WIDE, row, some_frames, walk

EXAMPLES = r'''
>>> line, flat, bent = (4, ((0, 1), (1, 2), (2, 3))), (0, 0, 0, 0), (2, 1, 0, -1)
>>> plan = ((0, 1), (3, 1), (1, 1), (0, 2), (0, 1), (3, -1), (0, 2))
>>> cut_off(line, flat, bent, plan)
((0, 1), (1, 1), (0, 2), (0, 1), (3, -1), (0, 2))
>>> apart(line, flat, bent, plan), woven(line, flat, bent, plan, (1, 0, 0, 0, 0, 0))[:2]
((((0, 1), (1, 1), (0, 2), (0, 1), (0, 2)), ((3, -1),)), ((3, -1), (0, 1)))
>>> kept_deeds(line, flat, bent, plan), never_back(line, flat, bent, plan), saved(line, flat, bent, plan)
((0, 2, 3, 5), ((0, 1), (1, 1), (0, 2), (3, -1)), (7, 6, 4))
>>> is_cut(line, flat, bent, plan), is_forward(line, flat, bent, plan), is_apart(line, flat, bent, plan), is_apart(line, flat, bent, plan[:1] + ((1, 1), (0, 2), (3, -1)))
(False, False, False, True)
>>> woven(line, flat, bent, plan, (0, 1))
raises Unfit()
>>> saved(line, flat, bent, plan[:3])
raises Unfit()
'''

LINE, FLAT, BENT = row(4), (0, 0, 0, 0), (2, 1, 0, -1)
PLAN = ((0, 1), (3, 1), (1, 1), (0, 2), (0, 1), (3, -1), (0, 2))
PLAIN = (cut_off, is_cut, apart, is_apart, kept_deeds, never_back, is_forward, saved)


def made(seed, many, long=30):
    """Frames, stands and plans that lead from one to the other, back and forth."""
    maker = Maker(seed)
    for frame in some_frames():
        for _ in range(many):
            one = maker.stand(frame, -2, 2)
            plan = maker.plan(frame, one, maker.below(long), -4, 4)
            yield frame, one, walk(frame, one, plan)[-1], plan


def clipped(one, other, deed):
    jack, height = deed
    return (jack, sorted((one[jack], other[jack], height))[1])


def slow_cut(one, other, plan):
    here, kept = dict(enumerate(one)), []
    for deed in plan:
        jack, height = clipped(one, other, deed)
        if here[jack] != height:
            kept.append((jack, height))
        here[jack] = height
    return tuple(kept)


def slow_kept(one, other, plan):
    """The numbers, each deed looked at beside all ahead of it, as the point tells it."""
    kept = []
    for at, deed in enumerate(plan):
        jack, height = clipped(one, other, deed)
        ahead = [clipped(one, other, own)[1] for own in plan[:at] if own[0] == jack] + [one[jack]]
        if all(abs(height - other[jack]) < abs(own - other[jack]) for own in ahead):
            kept.append(at)
    return tuple(kept)


def is_straight(one, other, plan):
    here = list(one)
    for jack, height in plan:
        if abs(height - other[jack]) >= abs(here[jack] - other[jack]):
            return False
        if not min(one[jack], other[jack]) <= height <= max(one[jack], other[jack]):
            return False
        here[jack] = height
    return True


class Parted(Case):

    def test_examples(self):
        self.examples(EXAMPLES, {**vars(parted), **vars(errors)})

    def test_cut_off(self):
        shorter = 0
        for frame, one, other, plan in made(31, 6):
            told = self.tell(cut_off, frame, one, other, plan)
            self.assertEqual(told, slow_cut(one, other, plan))
            self.assertIs(is_plan(frame, one, other, told), True)
            self.assertIs(self.tell(is_cut, frame, one, other, plan), told == plan)
            self.assertIs(is_cut(frame, one, other, told), True)
            self.assertLessEqual(len(told), len(plan))
            shorter += len(told) < len(plan)
        self.assertGreater(shorter, 20)

    def test_never_back(self):
        seen = set()
        for frame, one, other, plan in made(32, 6):
            kept = self.tell(kept_deeds, frame, one, other, plan)
            self.assertEqual(kept, slow_kept(one, other, plan))
            told = self.tell(never_back, frame, one, other, plan)
            self.assertEqual(told, tuple(clipped(one, other, plan[at]) for at in kept))
            self.assertIs(is_plan(frame, one, other, told), True)
            self.assertTrue(is_straight(one, other, told))
            self.assertTrue(all(deed in plan for deed in told))
            self.assertIs(self.tell(is_forward, frame, one, other, plan), is_straight(one, other, plan))
            self.assertIs(is_forward(frame, one, other, told), True)
            self.assertEqual(never_back(frame, one, other, told), told)
            counts = self.tell(saved, frame, one, other, plan)
            self.assertEqual(counts, (len(plan), len(slow_cut(one, other, plan)), len(kept)))
            self.assertTrue(counts[0] >= counts[1] >= counts[2])
            seen.add(counts[0] > counts[1] > counts[2])
        self.assertEqual(seen, {True, False})

    def test_apart(self):
        both = 0
        for frame, one, other, plan in made(33, 6):
            up, down = self.tell(apart, frame, one, other, plan)
            cut = slow_cut(one, other, plan)
            self.assertEqual(up, tuple(deed for deed in cut if other[deed[0]] > one[deed[0]]))
            self.assertEqual(down, tuple(deed for deed in cut if other[deed[0]] < one[deed[0]]))
            self.assertEqual(len(up) + len(down), len(cut))
            self.assertIs(self.tell(is_apart, frame, one, other, plan), plan == up + down)
            self.assertIs(is_apart(frame, one, other, up + down), True)
            if up and down:
                both += 1
                self.assertIs(is_apart(frame, one, other, down + up), False)
        self.assertGreater(both, 20)

    def test_woven(self):
        maker = Maker(34)
        for frame, one, other, plan in made(34, 3):
            up, down = apart(frame, one, other, plan)
            for _ in range(4):
                marks = tuple(maker.mixed([0] * len(up) + [1] * len(down)))
                told = self.tell(woven, frame, one, other, plan, marks)
                self.assertIs(is_plan(frame, one, other, told), True)
                self.assertEqual(tuple(deed for deed, mark in zip(told, marks) if mark == 0), up)
                self.assertEqual(tuple(deed for deed, mark in zip(told, marks) if mark == 1), down)
                self.assertEqual(len(told), len(marks))

    def test_all_ways_to_weave(self):
        one, other, plan = (0, 0, 1, 1), (1, 1, 0, 0), ((0, 1), (1, 1), (2, 0), (3, 0))
        self.assertEqual(apart(LINE, one, other, plan), (plan[:2], plan[2:]))
        ways = set()
        for marks in set(itertools.permutations((0, 0, 1, 1))):
            told = woven(LINE, one, other, plan, marks)
            self.assertIs(is_plan(LINE, one, other, told), True)
            self.assertIs(is_apart(LINE, one, other, told), marks == (0, 0, 1, 1))
            ways.add(told)
        self.assertEqual(len(ways), 6)

    def test_marks_that_are_none(self):
        good = (1, 0, 0, 0, 0, 0)
        self.assertEqual(len(woven(LINE, FLAT, BENT, PLAN, good)), 6)
        wrong = (
            (), good[:-1], good + (0,), good + (1,), (1, 1, 0, 0, 0, 0), (0,) * 6, (2, 0, 0, 0, 0, 0),
            (True, 0, 0, 0, 0, 0), (1, False, 0, 0, 0, 0), (1, 0, 0, 0, 0, None), ("1", 0, 0, 0, 0, 0), None, 1, "100000",
            True, (good,), (1, 0, 0, 0, 0, (0,)), (-1, 0, 0, 0, 0, 0), (1, 0, 0, 0, 0, ()),
        )
        for marks in wrong:
            self.refused(errors.Unfit, woven, LINE, FLAT, BENT, PLAN, marks)
        self.assertEqual(woven(LINE, FLAT, FLAT, (), ()), ())
        self.refused(errors.Unfit, woven, LINE, FLAT, FLAT, (), (0,))

    def test_unfit_plans(self):
        wrong = NO_THINGS + (
            (), PLAN[:-1], PLAN[3:], PLAN + ((0, 2),), PLAN + ((0, 1),), PLAN[::-1], ((0, 2),), ((4, 1),), ((-1, 0),),
            PLAN[:2] + ((0, True),) + PLAN[2:], PLAN + ((3,),), PLAN + (3,), PLAN + ((9, 9),), (PLAN,),
        )
        for plan in wrong:
            if plan in ([], ()):
                plan = ((0, 9),)
            for function in PLAIN:
                self.refused(errors.Unfit, function, LINE, FLAT, BENT, plan)
            self.refused(errors.Unfit, woven, LINE, FLAT, BENT, plan, (1, 0, 0, 0, 0, 0))
            self.refused(errors.Unfit, woven, LINE, FLAT, BENT, plan, None)
        for function in PLAIN:
            self.refused(errors.Unfit, function, LINE, FLAT, BENT, ())
            self.refused(errors.Unfit, function, LINE, BENT, FLAT, PLAN)
            self.refused(errors.Unfit, function, LINE, FLAT, (2, 1, 0, 0), PLAN)
            # No plan leads from or to what is no stand.
            self.refused(errors.Unfit, function, LINE, (0, 0, 2, 0), BENT, PLAN)
            self.refused(errors.Unfit, function, LINE, FLAT, (0, 0, 2, 0), PLAN)

    def test_plans_of_no_deeds(self):
        for function, wanted in (
            (cut_off, ()), (is_cut, True), (apart, ((), ())), (is_apart, True), (kept_deeds, ()), (never_back, ()),
            (is_forward, True), (saved, (0, 0, 0)),
        ):
            self.assertEqual(self.tell(function, LINE, FLAT, FLAT, ()), wanted)
        there_and_back = ((0, 1), (0, 0))
        self.assertEqual(cut_off(LINE, FLAT, FLAT, there_and_back), ())
        self.assertEqual(saved(LINE, FLAT, FLAT, there_and_back), (2, 0, 0))
        self.assertEqual(apart(LINE, FLAT, FLAT, there_and_back), ((), ()))

    def test_beyond_both_heights(self):
        pair = row(2)
        plan = ((0, 1), (1, 2), (0, 3), (1, 4), (0, 5), (1, 4), (0, 3), (1, 2), (0, 3))
        plan = plan[:5] + ((1, 6), (1, 5), (1, 4), (0, 4), (0, 3), (1, 2))
        goal = (3, 2)
        self.assertIs(is_plan(pair, (0, 0), goal, plan), True)
        self.assertEqual(cut_off(pair, (0, 0), goal, plan), ((0, 1), (1, 2), (0, 3)))
        self.assertEqual(kept_deeds(pair, (0, 0), goal, plan), (0, 1, 2))
        self.assertEqual(saved(pair, (0, 0), goal, plan), (11, 3, 3))
        over = ((0, 1), (1, 2), (0, 3), (0, 2))
        self.assertEqual(kept_deeds(pair, (0, 0), (2, 2), over), (0, 1, 2))
        self.assertEqual(never_back(pair, (0, 0), (2, 2), over), ((0, 1), (1, 2), (0, 2)))

    def test_long_plans_of_wide_frames(self):
        maker = Maker(35)
        one = maker.stand(WIDE, -3, 3)
        plan = maker.plan(WIDE, one, 500, -9, 9)
        other = walk(WIDE, one, plan)[-1]
        self.assertEqual(len(plan), 500)
        self.assertEqual(cut_off(WIDE, one, other, plan), slow_cut(one, other, plan))
        self.assertEqual(kept_deeds(WIDE, one, other, plan), slow_kept(one, other, plan))
        self.assertIs(is_plan(WIDE, one, other, never_back(WIDE, one, other, plan)), True)
