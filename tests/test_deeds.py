"""Promise [7]: deeds and plans."""

import itertools

from evenlifts import deeds, errors
from evenlifts.deeds import (
    can_do, comes_to, deeds_here, done, first_bad, gone_on, is_deed, is_plan, leaped, plan_mirrored, plan_shifted, room,
    stops_of, undoing, walked,
)
from evenlifts.stands import mirrored, shifted
from making import (
    Case, FLOOR, HOUSE, KITE, Maker, NO_THINGS, WIDE, WIDE_TWO, doable, listed, nested, put, ring, row, some_frames,
    stands as fits, star, walk,
)

EXAMPLES = r'''
>>> row, ring = (4, ((0, 1), (1, 2), (2, 3))), (3, ((0, 1), (0, 2), (1, 2)))
>>> low, hill, dale = (0, 0, 0, 0), (1, 2, 2, 1), (2, 1, 1, 2)
>>> plan, slope = ((1, 1), (0, 2), (2, 1)), (0, 1, 2, 1)
>>> is_deed(row, (3, -5)), is_deed(row, (4, 0)), [can_do(row, low, (1, own)) for own in (1, 2, 0)], done(row, low, (1, 1))
(True, False, [True, False, False], (0, 1, 0, 0))
>>> room(row, low, 1), room(row, slope, 0), room(row, slope, 1), deeds_here(row, slope)
((-1, 0, 1), (0, 1, 2), (1,), [(0, 1), (0, 2), (2, 0), (2, 1), (3, 2), (3, 3)])
>>> walked(row, low, plan), leaped(row, low, plan)
([(0, 0, 0, 0), (0, 1, 0, 0), (2, 1, 0, 0), (2, 1, 1, 0)], (None, (0, 1), None))
>>> comes_to(row, low, plan), first_bad(row, low, plan + ((1, 3),)), first_bad(row, low, plan), is_plan(row, low, (2, 1, 1, 0), plan), is_plan(row, low, low, ())
((2, 1, 1, 0), 3, None, True, True)
>>> undoing(row, low, plan), stops_of(row, plan + ((0, 1),), 0), gone_on(row, low, plan, ((3, 1),))
(((2, 0), (0, 0), (1, 0)), (2, 1), ((1, 1), (0, 2), (2, 1), (3, 1)))
>>> plan_shifted(plan, 5), plan_mirrored(plan)
(((1, 6), (0, 7), (2, 6)), ((1, -1), (0, -2), (2, -1)))
>>> done(row, low, (1, 2))
raises NoStand(beam=(0, 1))
>>> done(row, low, (1, 0))
raises CanNot()
>>> room(row, low, 4)
raises NoJack(jack=4)
'''

ROW, LOW = row(4), (0, 0, 0, 0)

NO_DEEDS = NO_THINGS + (
    (), (0,), (0, 0, 0), (4, 0), (-1, 0), (-4, 0), (True, 0), (False, 0), (0, True), (0, False), [0, 1], ("0", 1),
    (0, "1"), (None, 1), (0, None), ((0, 1),), (0, (1,)), ((0,), 1), (10 ** 20, 0), "01",
)

# Plans of ROW's deeds, none of which leads from LOW to (0, 1, 0, 0) as ((1, 1),) does.
NO_PLANS = NO_THINGS + (
    (), [(1, 1)], ([1, 1],), ((1, 1, 1),), ((1,),), (1, 1), ((1, True),), ((True, 1),), ((1, 1), (1, 1)), ((1, 2),),
    ((1, 0),), ((4, 1),), ((-3, 1),), ((1, "1"),), (("1", 1),), ((1, 1), None), (((1, 1),),), ((1, 1), (0, 1)),
    ((1, 1), (4, 0)), ((1, 1), ()), ((1, 1), "ab"), ((1, 2), (1, 1)), ((1, 1), (0, 2), (0, 0), (0, 0)), nested(12),
)


def made_plans(seed, many, long=25, low=-4, high=4):
    maker = Maker(seed)
    for frame in some_frames():
        for _ in range(many):
            stand = maker.stand(frame, -2, 2)
            yield frame, stand, maker.plan(frame, stand, long, low, high)


def torn_by(frame, stand, deed):
    moved = put(stand, deed)
    return [beam for beam in frame[1] if abs(moved[beam[0]] - moved[beam[1]]) > 1]


class Deeds(Case):

    def test_examples(self):
        self.examples(EXAMPLES, {**vars(deeds), **vars(errors)})

    def test_is_deed(self):
        self.none_of(lambda thing: is_deed(ROW, thing), [own for own in NO_DEEDS])
        for frame in (row(2), KITE, WIDE):
            for jack in range(-2, frame[0] + 2):
                for height in (0, -5, 10 ** 40):
                    self.assertIs(self.tell(is_deed, frame, (jack, height)), 0 <= jack < frame[0])
                    self.assertIs(is_deed(frame, [jack, height]), False)

    def test_can_do_done_and_room(self):
        maker = Maker(21)
        for frame in some_frames():
            for _ in range(4):
                stand = maker.stand(frame, -2, 2)
                self.assertEqual(self.tell(deeds_here, frame, stand), sorted(doable(frame, stand)))
                for jack in range(frame[0]):
                    self.check_jack(frame, stand, jack)

    def check_jack(self, frame, stand, jack):
        told = self.tell(room, frame, stand, jack)
        heights = range(stand[jack] - 4, stand[jack] + 5)
        self.assertEqual(told, tuple(own for own in heights if fits(frame, put(stand, (jack, own)))))
        self.assertTrue(1 <= len(told) <= 3 and stand[jack] in told)
        for height in heights:
            deed = (jack, height)
            self.assertIs(can_do(frame, stand, deed), height != stand[jack] and height in told)
            if height == stand[jack]:
                self.refused(errors.CanNot, done, frame, stand, deed)
            elif height not in told:
                self.refused(errors.NoStand, done, frame, stand, deed, beam=torn_by(frame, stand, deed)[0])
            else:
                self.assertEqual(self.tell(done, frame, stand, deed), put(stand, deed))
                self.assertIs(self.tell(can_do, frame, stand, deed), True)
                around = {stand[low + high - jack] for low, high in frame[1] if jack in (low, high)}
                two = abs(height - stand[jack]) == 2
                self.assertLessEqual(abs(height - stand[jack]), 2)
                self.assertEqual(two, around == {(height + stand[jack]) // 2} and abs(height - stand[jack]) > 1)

    def test_walked_and_comes_to(self):
        for frame, stand, plan in made_plans(22, 3):
            told = self.tell(walked, frame, stand, plan)
            self.assertEqual(told, walk(frame, stand, plan))
            self.assertEqual(len(told), len(plan) + 1)
            self.assertEqual(self.tell(comes_to, frame, stand, plan), told[-1])
            self.assertIsNone(self.tell(first_bad, frame, stand, plan))
            self.assertIs(self.tell(is_plan, frame, stand, told[-1], plan), True)
            self.assertIs(is_plan(frame, stand, shifted(frame, told[-1], 1), plan), False)
            self.assertIs(is_plan(frame, stand, told[-1], listed(plan)), False)
            if plan:
                self.assertIs(is_plan(frame, stand, told[-1], plan[:-1]), False)

    def test_undoing(self):
        for frame, stand, plan in made_plans(23, 3):
            passed = walk(frame, stand, plan)
            back = self.tell(undoing, frame, stand, plan)
            self.assertEqual(len(back), len(plan))
            self.assertEqual(walk(frame, passed[-1], back), passed[::-1])
            self.assertEqual(undoing(frame, passed[-1], back), plan)

    def test_gone_on(self):
        maker = Maker(24)
        for frame, stand, plan in made_plans(24, 2):
            more = maker.plan(frame, walk(frame, stand, plan)[-1], 9, -5, 5)
            told = self.tell(gone_on, frame, stand, plan, more)
            self.assertEqual(told, plan + more)
            self.assertEqual(comes_to(frame, stand, told), comes_to(frame, comes_to(frame, stand, plan), more))
            self.assertEqual(gone_on(frame, stand, plan, ()), plan)
        self.assertEqual(gone_on(ROW, LOW, (), ()), ())

    def test_stops_of(self):
        maker = Maker(25)
        for frame in some_frames():
            plan = tuple((maker.below(frame[0]), maker.among(-9, 9)) for _ in range(30))
            for jack in range(frame[0]):
                told = self.tell(stops_of, frame, plan, jack)
                self.assertEqual(told, tuple(deed[1] for deed in plan if deed[0] == jack))
            for jack in (-1, frame[0], 10 ** 20, -frame[0]):
                self.refused(errors.NoJack, stops_of, frame, plan, jack, jack=jack)
        self.assertEqual(stops_of(ROW, (), 0), ())
        self.assertEqual(stops_of(ROW, ((0, 99), (0, 99), (1, 7)), 0), (99, 99))

    def test_leaped(self):
        seen = 0
        for frame, stand, plan in made_plans(26, 3):
            passed = walk(frame, stand, plan)
            wanted = []
            for at, (jack, height) in enumerate(plan):
                leap = abs(passed[at][jack] - height) == 2
                wanted.append((jack, (passed[at][jack] + height) // 2) if leap else None)
                around = [passed[at][low + high - jack] for low, high in frame[1] if jack in (low, high)]
                self.assertEqual(leap, set(around) == {(passed[at][jack] + height) / 2})
            told = self.tell(leaped, frame, stand, plan)
            self.assertEqual(told, tuple(wanted))
            seen += len([own for own in told if own is not None])
        self.assertGreater(seen, 20)
        self.assertEqual(leaped(ROW, LOW, ()), ())
        self.assertEqual(leaped(row(2), (-3, -4), ((0, -5),)), ((0, -4),))

    def test_first_bad(self):
        maker = Maker(27)
        for frame in some_frames():
            for _ in range(6):
                stand = maker.stand(frame, -1, 1)
                plan = tuple((maker.below(frame[0]), maker.among(-2, 2)) for _ in range(6))
                wanted = [at for at in range(len(plan)) if walk(frame, stand, plan[:at + 1]) is None]
                self.assertEqual(self.tell(first_bad, frame, stand, plan), wanted[0] if wanted else None)
                self.check_bad_walk(frame, stand, plan, wanted)

    def check_bad_walk(self, frame, stand, plan, bad):
        calls = [(walked, (frame, stand, plan)), (comes_to, (frame, stand, plan)), (undoing, (frame, stand, plan)),
                 (leaped, (frame, stand, plan)), (gone_on, (frame, stand, plan, ())),
                 (gone_on, (frame, stand, (), plan)), (gone_on, (frame, stand, plan[:2], plan[2:]))]
        if not bad:
            for function, values in calls:
                function(*values)
            return
        here, deed = walk(frame, stand, plan[:bad[0]])[-1], plan[bad[0]]
        for function, values in calls:
            if here[deed[0]] == deed[1]:
                self.refused(errors.CanNot, function, *values)
            else:
                self.refused(errors.NoStand, function, *values, beam=torn_by(frame, here, deed)[0])

    def test_deeds_that_cannot_be_done(self):
        self.refused(errors.CanNot, walked, ROW, LOW, ((1, 1), (1, 1)))
        self.refused(errors.NoStand, walked, ROW, LOW, ((1, 1), (0, 3)), beam=(0, 1))
        self.refused(errors.NoStand, comes_to, ROW, LOW, ((2, 5),), beam=(1, 2))
        self.refused(errors.CanNot, comes_to, ROW, LOW, ((3, 0),))
        self.refused(errors.CanNot, undoing, ROW, LOW, ((3, 0),))
        self.refused(errors.NoStand, leaped, ROW, LOW, ((1, 1), (3, -2)), beam=(2, 3))
        self.refused(errors.NoStand, done, KITE, LOW, (2, 2), beam=(0, 2))
        self.refused(errors.NoStand, done, KITE, (1, 1, 1, 0), (2, 2), beam=(2, 3))
        self.refused(errors.CanNot, gone_on, ROW, LOW, ((1, 1),), ((1, 1),))
        self.refused(errors.NoStand, gone_on, ROW, LOW, ((1, 1),), ((1, 2),), beam=(0, 1))

    def test_is_plan_of_what_is_none(self):
        goal = (0, 1, 0, 0)
        self.none_of(lambda thing: is_plan(ROW, LOW, goal, thing), NO_PLANS)
        self.assertIs(self.tell(is_plan, ROW, LOW, goal, ((1, 1),)), True)
        self.assertIs(is_plan(ROW, LOW, goal, ((1, 1), (0, 2), (0, 0))), True)
        self.assertIs(is_plan(ROW, LOW, LOW, ()), True)
        self.assertIs(is_plan(ROW, LOW, LOW, []), False)
        self.assertIs(is_plan(ROW, LOW, LOW, ((1, 1), (1, 0))), True)

    def test_is_plan_of_all_short_tuples(self):
        frame, one = ring(3), (0, 0, 1)
        for long in range(4):
            for own in itertools.product(list(itertools.product(range(3), (0, 1, 2))), repeat=long):
                passed = walk(frame, one, own)
                for goal in ((0, 0, 1), (1, 1, 1), (1, 1, 2)):
                    self.assertIs(is_plan(frame, one, goal, own), passed is not None and passed[-1] == goal)

    def test_no_stand_ahead_of_all(self):
        torn, more = (0, 0, 2, 0), (0, 2, 0, 0)
        self.refused(errors.NoStand, can_do, ROW, torn, (2, 1), beam=(1, 2))
        self.refused(errors.NoStand, done, ROW, torn, (2, 1), beam=(1, 2))
        self.refused(errors.NoStand, done, ROW, more, (0, 0), beam=(0, 1))
        self.refused(errors.NoStand, deeds_here, ROW, torn, beam=(1, 2))
        for jack in (0, 4, -1):
            self.refused(errors.NoStand, room, ROW, torn, jack, beam=(1, 2))
        for function in (walked, comes_to, first_bad, undoing, leaped):
            for plan in ((), ((2, 1),), ((0, 0),), ((0, 7),)):
                self.refused(errors.NoStand, function, ROW, torn, plan, beam=(1, 2))
        self.refused(errors.NoStand, gone_on, ROW, more, ((1, 1),), (), beam=(0, 1))
        for thing in ((), ((2, 1),), None, "a"):
            self.refused(errors.NoStand, is_plan, ROW, torn, LOW, thing, beam=(1, 2))
            self.refused(errors.NoStand, is_plan, ROW, LOW, torn, thing, beam=(1, 2))
            self.refused(errors.NoStand, is_plan, ROW, more, torn, thing, beam=(0, 1))

    def test_no_jack(self):
        for frame in (ROW, KITE, HOUSE, FLOOR):
            for jack in (-1, frame[0], frame[0] + 3, -frame[0], 10 ** 9):
                self.refused(errors.NoJack, room, frame, (0,) * frame[0], jack, jack=jack)

    def test_shifted_and_mirrored(self):
        for frame, stand, plan in made_plans(28, 2):
            goal = comes_to(frame, stand, plan)
            for by in (0, 4, -10 ** 6):
                told = self.tell(plan_shifted, plan, by)
                self.assertEqual(told, tuple((jack, height + by) for jack, height in plan))
                self.assertIs(is_plan(frame, shifted(frame, stand, by), shifted(frame, goal, by), told), True)
            told = self.tell(plan_mirrored, plan)
            self.assertEqual(told, tuple((jack, -height) for jack, height in plan))
            self.assertIs(is_plan(frame, mirrored(frame, stand), mirrored(frame, goal), told), True)
        self.assertEqual((plan_shifted((), 3), plan_mirrored(())), ((), ()))

    def test_deeds_without_a_beam_between_change_places(self):
        changed = 0
        for frame, stand, plan in made_plans(29, 2):
            for at in range(len(plan) - 1):
                near, far = plan[at], plan[at + 1]
                if near[0] != far[0] and tuple(sorted((near[0], far[0]))) not in frame[1]:
                    other_way = plan[:at] + (far, near) + plan[at + 2:]
                    self.assertEqual(comes_to(frame, stand, other_way), comes_to(frame, stand, plan))
                    changed += 1
        self.assertGreater(changed, 50)

    def test_each_stand_can_be_come_to(self):
        for frame in (row(3), KITE, (4, ((0, 1), (2, 3)))):
            start, found = (0,) * frame[0], {(0,) * frame[0]}
            ahead = [start]
            while ahead:
                here = ahead.pop()
                for deed in deeds_here(frame, here):
                    behind = done(frame, here, deed)
                    if behind not in found and all(-1 <= height <= 2 for height in behind):
                        found.add(behind)
                        ahead.append(behind)
            wanted = [own for own in itertools.product(range(-1, 3), repeat=frame[0]) if fits(frame, own)]
            self.assertEqual(sorted(found), wanted)

    def test_long_plans_of_wide_frames(self):
        maker = Maker(30)
        for frame in (WIDE, WIDE_TWO, FLOOR, star(12)):
            stand = maker.stand(frame, 10 ** 6 - 9, 10 ** 6)
            plan = maker.plan(frame, stand, 500, 10 ** 6 - 20, 10 ** 6)
            self.assertEqual(len(plan), 500)
            passed = walked(frame, stand, plan)
            self.assertEqual(passed, walk(frame, stand, plan))
            self.assertIs(is_plan(frame, stand, passed[-1], plan), True)
            self.assertIsNone(first_bad(frame, stand, plan))
            self.assertEqual(comes_to(frame, passed[-1], undoing(frame, stand, plan)), stand)
            self.assertEqual(len(leaped(frame, stand, plan)), 500)
