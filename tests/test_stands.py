"""Promise [6]: stands; and of [2] and [3] what heights and stands are."""

import itertools

from evenlifts import errors, stands
from evenlifts.stands import (
    all_between, cracks, distance, greater, is_between, is_heights, is_stand, lesser, level_stand, lowered, mirrored,
    raised, shifted, slack_of,
)
from making import (
    APART, Case, HOUSE, KITE, Maker, NO_THINGS, WIDE, full, listed, ring, row, small_frames, some_frames, star,
    stands as fits,
)

EXAMPLES = r'''
>>> row, ring = (4, ((0, 1), (1, 2), (2, 3))), (3, ((0, 1), (0, 2), (1, 2)))
>>> low, hill, dale = (0, 0, 0, 0), (1, 2, 2, 1), (2, 1, 1, 2)
>>> is_heights(row, (0, 5, 0, 0)), is_heights(row, (0, 5, 0)), is_stand(row, (0, 5, 0, 0)), is_stand(row, hill), is_stand(row, [1, 2, 2, 1])
(True, False, False, True, False)
>>> cracks(row, (0, 5, 0, 0)), cracks(row, hill), slack_of(row, (0, 5, 0, 0)), slack_of(row, low)
(((0, 1), (1, 2)), (), 5, 1)
>>> lesser(row, hill, dale), greater(row, hill, dale), distance(row, low, hill), distance(ring, (0, 1, 1), (2, 1, 2))
((1, 1, 1, 1), (2, 2, 2, 2), 6, 3)
>>> raised(row, hill, dale), lowered(row, hill, dale), raised(row, hill, hill)
((0, 3), (1, 2), ())
>>> [is_between(row, low, hill, own) for own in ((0, 1, 1, 1), (0, 2, 1, 1), (2, 2, 2, 1))], is_between(row, hill, low, low)
([True, False, False], True)
>>> all_between(ring, (0, 0, 0), (1, 1, 0)), len(all_between(row, low, hill))
([(0, 0, 0), (0, 1, 0), (1, 0, 0), (1, 1, 0)], 21)
>>> level_stand(row, -3), shifted(row, hill, 4), mirrored(row, hill)
((-3, -3, -3, -3), (5, 6, 6, 5), (-1, -2, -2, -1))
>>> lesser(row, low, (0, 2, 2, 1))
raises NoStand(beam=(0, 1))
>>> all_between(row, low, level_stand(row, 6))
raises TooMany()
'''

ROW, LOW = row(4), (0, 0, 0, 0)

NO_HEIGHTS = NO_THINGS + (
    (), (0, 0, 0), (0, 0, 0, 0, 0), [0, 0, 0, 0], (0, 0, 0, True), (False, 0, 0, 0), (0, 0, 0, None), (0, 0, 0, "0"),
    ((0, 0, 0, 0),), (0, 0, 0, (0,)), (0, 0, [0], 0), "0000", (LOW, LOW, LOW, LOW), ("0", "0", "0", "0"),
)

TWO = (lesser, greater, distance, raised, lowered, all_between)


def slow_between(frame, one, other):
    spans = [range(min(low, high), max(low, high) + 1) for low, high in zip(one, other)]
    return [own for own in itertools.product(*spans) if fits(frame, own)]


def couples_of_stands(seed, many, low=-2, high=3):
    maker = Maker(seed)
    for frame in some_frames():
        for _ in range(many):
            yield frame, maker.stand(frame, low, high), maker.stand(frame, low, high)


class Stands(Case):

    def test_examples(self):
        self.examples(EXAMPLES, {**vars(stands), **vars(errors)})

    def test_is_heights(self):
        self.none_of(lambda thing: is_heights(ROW, thing), NO_HEIGHTS)
        for own in (LOW, (0, 5, 0, 0), (-3, 10 ** 40, -10 ** 40, 7)):
            self.assertIs(self.tell(is_heights, ROW, own), True)
            self.assertIs(is_heights(ROW, listed(own)), False)

    def test_is_stand(self):
        self.none_of(lambda thing: is_stand(ROW, thing), NO_HEIGHTS + ((0, 5, 0, 0), (0, 2, 1, 0), (0, 0, 0, -2)))
        self.assertIs(self.tell(is_stand, ROW, (10 ** 40, 10 ** 40 + 1, 10 ** 40, 10 ** 40 - 1)), True)
        for frame in small_frames():
            for own in itertools.product(range(3), repeat=frame[0]):
                self.assertIs(is_stand(frame, own), fits(frame, own))
                self.assertIs(is_heights(frame, own), True)
                self.assertIs(is_heights(frame, own + (0,)), False)
                self.assertIs(is_stand(frame, own[1:]), False)

    def test_cracks_and_slack(self):
        maker = Maker(11)
        for frame in some_frames() + [WIDE]:
            for _ in range(20):
                heights = tuple(maker.among(-3, 3) for _ in range(frame[0]))
                steps = {beam: abs(heights[beam[0]] - heights[beam[1]]) for beam in frame[1]}
                self.assertEqual(self.tell(cracks, frame, heights), tuple(b for b in frame[1] if steps[b] > 1))
                told = self.tell(slack_of, frame, heights)
                self.assertEqual(told, max(1, max(steps.values())))
                self.assertEqual(told == 1, is_stand(frame, heights))
        self.assertEqual(slack_of(row(2), (10 ** 6, -10 ** 6)), 2 * 10 ** 6)

    def test_lesser_and_greater(self):
        for frame, one, other in couples_of_stands(12, 6):
            low, high = self.tell(lesser, frame, one, other), self.tell(greater, frame, one, other)
            self.assertTrue(is_stand(frame, low) and is_stand(frame, high))
            for jack in range(frame[0]):
                self.assertEqual([low[jack], high[jack]], sorted([one[jack], other[jack]]))
            self.assertEqual(lesser(frame, mirrored(frame, one), mirrored(frame, other)), mirrored(frame, high))
            self.assertEqual(greater(frame, mirrored(frame, one), mirrored(frame, other)), mirrored(frame, low))

    def test_distance(self):
        for frame, one, other in couples_of_stands(13, 6):
            told = self.tell(distance, frame, one, other)
            self.assertEqual(told, sum(abs(low - high) for low, high in zip(one, other)))
            self.assertEqual(told == 0, one == other)
            self.assertEqual(distance(frame, other, one), told)
            self.assertEqual(distance(frame, one, one), 0)
            for by in (5, -7):
                near, far = self.tell(shifted, frame, one, by), shifted(frame, other, by)
                self.assertEqual(near, tuple(height + by for height in one))
                self.assertEqual(distance(frame, near, far), told)

    def test_raised_and_lowered(self):
        for frame, one, other in couples_of_stands(14, 6):
            up, down = self.tell(raised, frame, one, other), self.tell(lowered, frame, one, other)
            self.assertEqual(up, tuple(jack for jack in range(frame[0]) if other[jack] > one[jack]))
            self.assertEqual(down, tuple(jack for jack in range(frame[0]) if other[jack] < one[jack]))
            self.assertEqual(raised(frame, other, one), down)

    def test_is_between_is_adding_up_of_distances(self):
        maker = Maker(15)
        for frame, one, other in couples_of_stands(15, 3):
            for _ in range(8):
                own = maker.stand(frame, -2, 3)
                wanted = distance(frame, one, own) + distance(frame, own, other) == distance(frame, one, other)
                self.assertIs(self.tell(is_between, frame, one, other, own), wanted)
                self.assertIs(is_between(frame, other, one, own), wanted)
            for own in (one, other, lesser(frame, one, other), greater(frame, one, other)):
                self.assertIs(is_between(frame, one, other, own), True)
            self.assertIs(is_between(frame, one, other, listed(one)), False)

    def test_is_between_beside_all_heights(self):
        for frame in (row(3), ring(3), KITE):
            for one, other in (((0,) * frame[0], (2,) * frame[0]), ((1, 0, 1, 1)[:frame[0]], (0, 1, 0, 0)[:frame[0]])):
                wanted = slow_between(frame, one, other)
                told = [
                    own for own in itertools.product(range(-1, 4), repeat=frame[0])
                    if is_between(frame, one, other, own)
                ]
                self.assertEqual(told, wanted)
                self.assertEqual(self.tell(all_between, frame, one, other), wanted)

    def test_is_between_of_what_is_none(self):
        self.none_of(lambda thing: is_between(ROW, LOW, (2, 2, 2, 2), thing), NO_HEIGHTS + (
            (0, 2, 1, 1), (-1, 0, 0, 0), (3, 2, 2, 2), (True, True, True, True), (2, 0, 2, 0),
        ))
        self.assertIs(is_between(ROW, LOW, (2, 2, 2, 2), (1, 1, 1, 1)), True)

    def test_all_between(self):
        for frame, one, other in couples_of_stands(16, 3, -1, 1):
            many = 1
            for low, high in zip(one, other):
                many *= abs(low - high) + 1
            if many <= 2000:
                self.assertEqual(self.tell(all_between, frame, one, other), slow_between(frame, one, other))
            else:
                self.refused(errors.TooMany, all_between, frame, one, other)
        self.assertEqual(all_between(ROW, LOW, LOW), [LOW])

    def test_all_between_at_its_bound(self):
        pair, three = (2, ((0, 1),)), row(3)
        # 44 * 45 = 1980 and 45 * 45 = 2025 heights; 2000 = 10 * 10 * 20 in a frame of parts.
        self.assertEqual(len(self.tell(all_between, pair, (0, 0), (43, 44))), 44 + 43 + 44)
        self.refused(errors.TooMany, all_between, pair, (0, 0), (44, 44))
        self.refused(errors.TooMany, all_between, pair, (0, 0), (1000, 1000))
        apart = (4, ((0, 1), (2, 3)))
        self.assertEqual(len(self.tell(all_between, apart, (0, 0, 0, 0), (4, 3, 9, 9))), (4 + 4 + 3) * 28)
        self.assertEqual(5 * 4 * 10 * 10, 2000)
        self.refused(errors.TooMany, all_between, apart, (0, 0, 0, 0), (4, 4, 8, 8))
        self.refused(errors.TooMany, all_between, three, (0, 0, 0), (-12, -12, -11))
        self.assertEqual(len(all_between(star(12), (0,) * 12, (0,) + (1,) * 10 + (0,))), 1024)
        self.refused(errors.TooMany, all_between, star(12), (0,) * 12, (0,) + (1,) * 11)
        self.refused(errors.TooMany, all_between, ROW, (0,) * 4, (10 ** 6,) * 4)
        for by in (-10 ** 6, -22, 10 ** 6):
            near, far = shifted(pair, (0, 0), by), shifted(pair, (43, 44), by)
            told = all_between(pair, near, far)
            self.assertEqual(told, [shifted(pair, own, by) for own in all_between(pair, (0, 0), (43, 44))])
            self.assertEqual(all_between(pair, far, near), told)
            self.refused(errors.TooMany, all_between, pair, near, shifted(pair, (44, 44), by))

    def test_level_shifted_mirrored(self):
        for frame in some_frames():
            for height in (0, -3, 10 ** 6):
                told = self.tell(level_stand, frame, height)
                self.assertEqual(told, tuple(height for _ in range(frame[0])))
                self.assertTrue(is_stand(frame, told))
        for frame, one, other in couples_of_stands(17, 3):
            told = self.tell(mirrored, frame, one)
            self.assertEqual(told, tuple(-height for height in one))
            self.assertEqual(mirrored(frame, told), one)
            self.assertTrue(is_stand(frame, told))
            self.assertEqual(distance(frame, told, mirrored(frame, other)), distance(frame, one, other))
            self.assertEqual(self.tell(shifted, frame, one, 0), one)
            self.assertEqual(shifted(frame, shifted(frame, one, 9), -9), one)

    def test_no_stand_argument_by_argument(self):
        torn, more = (0, 0, 2, 0), (0, 2, 0, 0)
        for function in TWO:
            self.refused(errors.NoStand, function, ROW, torn, LOW, beam=(1, 2))
            self.refused(errors.NoStand, function, ROW, LOW, torn, beam=(1, 2))
            self.refused(errors.NoStand, function, ROW, torn, more, beam=(1, 2))
            self.refused(errors.NoStand, function, ROW, more, torn, beam=(0, 1))
            self.refused(errors.NoStand, function, ROW, (0, 0, 0, 9), LOW, beam=(2, 3))
        for thing in (LOW, torn, None, "a"):
            self.refused(errors.NoStand, is_between, ROW, torn, LOW, thing, beam=(1, 2))
            self.refused(errors.NoStand, is_between, ROW, LOW, more, thing, beam=(0, 1))
            self.refused(errors.NoStand, is_between, ROW, torn, more, thing, beam=(1, 2))
        self.refused(errors.NoStand, shifted, ROW, torn, 3, beam=(1, 2))
        self.refused(errors.NoStand, mirrored, ROW, more, beam=(0, 1))

    def test_no_stand_is_the_least_beam_and_ahead_of_too_many(self):
        maker = Maker(18)
        for frame in some_frames():
            for _ in range(10):
                heights = tuple(maker.among(0, 3) for _ in range(frame[0]))
                torn = [beam for beam in frame[1] if abs(heights[beam[0]] - heights[beam[1]]) > 1]
                if torn:
                    self.refused(errors.NoStand, distance, frame, (0,) * frame[0], heights, beam=torn[0])
                    self.refused(errors.NoStand, all_between, frame, (99,) * frame[0], heights, beam=torn[0])
                else:
                    self.assertEqual(distance(frame, heights, heights), 0)

    def test_cracked_heights_raise_nothing_where_they_are_not_stands(self):
        self.assertEqual(cracks(ROW, (0, 9, 0, 9)), ROW[1])
        self.assertEqual(slack_of(ROW, (0, 9, 0, 9)), 9)
        self.assertIs(is_stand(ROW, (0, 9, 0, 9)), False)

    def test_great_heights_and_wide_frames(self):
        far = 10 ** 6
        for frame in (WIDE, full(7), HOUSE, APART):
            one, other = level_stand(frame, -far), level_stand(frame, far)
            self.assertEqual(distance(frame, one, other), 2 * far * frame[0])
            self.assertEqual(raised(frame, one, other), tuple(range(frame[0])))
            self.assertIs(is_between(frame, one, other, level_stand(frame, 7)), True)
            self.assertEqual(lesser(frame, one, other), one)
