"""Promise [9]: passable pairs; and of [3] TooMany for stands too far apart."""

import itertools

from evenlifts import errors, passable as file
from evenlifts.deeds import can_do, done
from evenlifts.frames import colours, is_two_coloured
from evenlifts.passable import (
    all_beside, are_beside, beside, is_passable, joined_lots, layers, levels_between, passable, sides, stand_past,
)
from evenlifts.stands import is_between
from making import (
    APART, Case, FLOOR, HOUSE, KITE, Maker, NO_THINGS, WIDE, WIDE_TWO, are_close, lengths, listed, pairs_of, ring, row,
    some_frames,
)

EXAMPLES = r'''
>>> row, low, high = (3, ((0, 1), (1, 2))), (0, 0, 0), (3, 2, 2)
>>> passable(row, low, high), levels_between(row, low, high, 0), [is_passable(row, low, high, own) for own in ((0, 2), (0, 3), (1, True), [0, 2])]
(((0, 1), (0, 2), (1, 1), (2, 1)), (1, 2), [True, False, False, False])
>>> all_beside(row, low, high), beside(row, low, high, (1, 1)), are_beside(row, low, high, (0, 2), (1, 1))
((((0, 1), (0, 2)), ((0, 1), (1, 1)), ((1, 1), (2, 1))), ((0, 1), (2, 1)), False)
>>> layers(row, low, high), sides(row, low, high), len(joined_lots(row, low, high))
([(1, (0, 1, 2)), (2, (0,))], (((0, 2), (1, 1)), ((0, 1), (2, 1))), 1)
>>> joined_lots((4, ((0, 1), (2, 3))), (0, 0, 0, 0), (2, 2, -2, -1))
[((0, 1), (1, 1)), ((2, -1),)]
>>> stand_past(row, low, high, (0, 2)), stand_past(row, low, high, (1, 1)), stand_past(row, high, low, (0, 1))
((1, 2, 1), (1, 0, 1), (2, 1, 2))
>>> sides((3, ((0, 1), (0, 2), (1, 2))), low, high)
raises CanNot()
>>> beside(row, low, high, (0, 3))
raises Unfit()
>>> levels_between(row, low, high, 3)
raises NoJack(jack=3)
'''

LISTING = (passable, all_beside, joined_lots, layers, sides)


def made(seed, many, low=-3, high=4):
    maker = Maker(seed)
    for frame in some_frames():
        for _ in range(many):
            yield frame, maker.stand(frame, low, high), maker.stand(frame, low, high)


class Passable(Case):

    def test_examples(self):
        self.examples(EXAMPLES, {**vars(file), **vars(errors)})

    def test_passable(self):
        for frame, one, other in made(41, 5):
            told = self.tell(passable, frame, one, other)
            self.assertEqual(told, tuple(pairs_of(one, other)))
            self.assertEqual(passable(frame, other, one), told)
            for jack in range(frame[0]):
                levels = self.tell(levels_between, frame, one, other, jack)
                self.assertEqual(levels, tuple(level for own, level in told if own == jack))
            for pair in itertools.product(range(-1, frame[0] + 1), range(-5, 7)):
                self.assertIs(is_passable(frame, one, other, pair), pair in told)
                self.assertIs(is_passable(frame, one, other, listed(pair)), False)
            self.assertEqual(passable(frame, one, one), ())
            self.assertEqual(joined_lots(frame, one, one), [])
            self.assertEqual(layers(frame, one, one), [])
            self.assertEqual(all_beside(frame, one, one), ())

    def test_is_passable_of_what_is_none(self):
        frame, one, other = row(3), (0, 0, 0), (3, 3, 3)
        self.none_of(lambda thing: is_passable(frame, one, other, thing), NO_THINGS + (
            (), (1,), (1, 1, 1), (True, 1), (1, True), (False, 1), [1, 1], (1, "1"), ("1", 1), (1, None), ((1, 1),),
            (1, (1,)), (-1, 1), (3, 1), (-3, 1), (1, 0), (1, 3), (1, -1), (1, 4), (10 ** 20, 1), (1, 10 ** 20),
        ))
        self.assertIs(self.tell(is_passable, frame, one, other, (1, 2)), True)

    def test_beside(self):
        for frame, one, other in made(42, 3):
            pairs = pairs_of(one, other)
            for near in pairs:
                wanted = tuple(far for far in pairs if are_close(frame, near, far))
                self.assertEqual(self.tell(beside, frame, one, other, near), wanted)
                for far in pairs:
                    self.assertIs(are_beside(frame, one, other, near, far), far in wanted)
            if pairs:
                self.tell(are_beside, frame, one, other, pairs[0], pairs[-1])
            couples = [(near, far) for near in pairs for far in pairs if near < far and are_close(frame, near, far)]
            self.assertEqual(self.tell(all_beside, frame, one, other), tuple(couples))

    def test_joined_lots(self):
        many = set()
        for frame, one, other in made(43, 5):
            lots = {pair: {pair} for pair in pairs_of(one, other)}
            for near, far in itertools.combinations(lots, 2):
                if are_close(frame, near, far):
                    both = lots[near] | lots[far]
                    for pair in both:
                        lots[pair] = both
            wanted = sorted({tuple(sorted(own)) for own in lots.values()})
            self.assertEqual(self.tell(joined_lots, frame, one, other), wanted)
            many.add(len(wanted))
        self.assertTrue({0, 1, 2, 3} <= many)

    def test_layers(self):
        for frame, one, other in made(44, 4):
            pairs = pairs_of(one, other)
            levels = sorted({level for jack, level in pairs})
            wanted = [(level, tuple(jack for jack, own in pairs if own == level)) for level in levels]
            self.assertEqual(self.tell(layers, frame, one, other), wanted)
        apart = (4, ((0, 1), (2, 3)))
        told = layers(apart, (0, 0, 10 ** 6, 10 ** 6), (2, 2, 10 ** 6 - 2, 10 ** 6 - 1))
        self.assertEqual(told, [(1, (0, 1)), (10 ** 6 - 1, (2,))])

    def test_sides(self):
        for frame, one, other in made(45, 4):
            if not is_two_coloured(frame):
                self.refused(errors.CanNot, sides, frame, one, other)
                continue
            even, odd = self.tell(sides, frame, one, other)
            colour = colours(frame)
            self.assertEqual(sorted(even + odd), pairs_of(one, other))
            for side, left in ((even, 0), (odd, 1)):
                self.assertEqual(list(side), sorted(side))
                self.assertTrue(all((colour[jack] + level) % 2 == left for jack, level in side))
                self.assertFalse(any(are_close(frame, near, far) for near in side for far in side))

    def test_stand_past(self):
        for frame, one, other in made(46, 3):
            steps = lengths(frame)
            for pair in pairs_of(one, other):
                told = self.tell(stand_past, frame, one, other, pair)
                self.assertEqual(told, self.slow_stand_past(frame, steps, one, other, pair))
                self.assertIs(is_between(frame, one, other, told), True)
                jack, level = pair
                way = 1 if one[jack] < other[jack] else -1
                self.assertEqual(told[jack], level - way)
                self.assertTrue(all(told[far] == level for far in range(frame[0]) if steps[jack][far] == 1))
                self.assertIs(can_do(frame, told, (jack, level + way)), True)
                self.assertIs(is_between(frame, one, other, done(frame, told, (jack, level + way))), True)

    def slow_stand_past(self, frame, steps, one, other, pair):
        jack, level = pair
        around = [far for far in range(frame[0]) if steps[jack][far] == 1]
        heights = []
        for own in range(frame[0]):
            if steps[own][jack] is None:
                heights.append(one[own])
                continue
            beams = min(steps[own][far] for far in around)
            if one[jack] < other[jack]:
                heights.append(max(one[own], level - beams))
            else:
                heights.append(min(one[own], level + beams))
        return tuple(heights)

    def test_unfit_pairs(self):
        frame, one, other = row(3), (0, 0, 0), (3, 3, 3)
        wrong = NO_THINGS + (
            (1,), (1, 1, 1), (True, 1), (1, True), (1, "1"), ((1, 1),), (-1, 1), (3, 1), (1, 0), (1, 3), (1, 10 ** 20),
        )
        for pair in wrong:
            if pair in ([0, 1], (0, 1)):
                continue
            self.refused(errors.Unfit, beside, frame, one, other, pair)
            self.refused(errors.Unfit, stand_past, frame, one, other, pair)
            self.refused(errors.Unfit, are_beside, frame, one, other, pair, (1, 1))
            self.refused(errors.Unfit, are_beside, frame, one, other, (1, 1), pair)
        self.assertIs(are_beside(frame, one, other, [1, 1], [1, 2]), True)
        self.assertIs(are_beside(frame, one, other, (1, 1), (1, 1)), False)
        self.refused(errors.Unfit, beside, frame, one, one, (0, 0))

    def test_no_jack_ahead_of_too_many(self):
        for frame in (row(3), KITE, HOUSE):
            for jack in (-1, frame[0], frame[0] + 5, -frame[0], 10 ** 20):
                for high in (3, 1000):
                    self.refused(
                        errors.NoJack, levels_between, frame, (0,) * frame[0], (high,) * frame[0], jack, jack=jack,
                    )

    def test_too_many(self):
        frame = (4, ((0, 1), (2, 3)))
        one = (0, 0, 0, 0)
        for other, far in (
            ((120, 120, 120, 120), 480), ((120, 121, 120, 120), 481), ((-120, -120, 121, 120), 481), ((0, 0, 240, 240), 480),
            ((0, 0, 240, 241), 481), ((240, 240, -1, 0), 481), ((10 ** 6,) * 4, 4 * 10 ** 6),
        ):
            self.assertEqual(sum(abs(height) for height in other), far)
            for near, behind in ((one, other), (other, one)):
                self.check_bound(frame, near, behind, far > 480)

    def check_bound(self, frame, one, other, beyond):
        if beyond:
            for function in LISTING:
                self.refused(errors.TooMany, function, frame, one, other)
            for jack in range(4):
                self.refused(errors.TooMany, levels_between, frame, one, other, jack)
        else:
            self.assertEqual(list(passable(frame, one, other)), pairs_of(one, other))
            for function in LISTING:
                self.tell(function, frame, one, other)
            for jack in range(4):
                self.tell(levels_between, frame, one, other, jack)
        jack = 2
        level = (one[jack] + other[jack]) // 2
        self.assertIs(is_passable(frame, one, other, (jack, level)), abs(one[jack] - other[jack]) > 1)
        if abs(one[jack] - other[jack]) > 1:
            self.assertEqual(
                beside(frame, one, other, (jack, level)), ((2, level - 1), (2, level + 1), (3, level)),
            )
            self.assertIs(are_beside(frame, one, other, (2, level), (3, level)), True)
            self.assertEqual(stand_past(frame, one, other, (jack, level))[3], level)

    def test_too_many_ahead_of_can_not(self):
        self.refused(errors.TooMany, sides, ring(3), (0, 0, 0), (161, 160, 160))
        self.refused(errors.CanNot, sides, ring(3), (0, 0, 0), (160, 160, 160))

    def test_at_the_bounds(self):
        for frame in (WIDE, WIDE_TWO, FLOOR, APART):
            one, other = (0,) * frame[0], (40,) * frame[0]
            self.assertEqual(len(passable(frame, one, other)), 39 * frame[0])
            self.assertEqual(len(all_beside(frame, one, other)), 38 * frame[0] + 39 * len(frame[1]))
            self.assertEqual(len(layers(frame, one, other)), 39)
            far = 10 ** 6
            told = stand_past(frame, (-far,) * frame[0], (far,) * frame[0], (1, 0))
            self.assertEqual(told[1], -1)
            self.assertEqual(len(joined_lots(frame, one, other)), 2 if frame == APART else 1)
