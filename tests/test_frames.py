"""Promise [5]: frames; and of [2] and [3] what frames are."""

import itertools

from evenlifts import errors, frames
from evenlifts.frames import (
    colours, floor_frame, is_colours, is_frame, is_odd_ring, is_two_coloured, neighbours, odd_ring, part_of, parts,
    put_apart, renamed, ring_frame, row_frame,
)
from making import (
    APART, Case, FLOOR, HOUSE, KITE, Maker, NO_THINGS, WIDE, WIDE_TWO, full, lengths, listed, nested, ring, row,
    small_frames, some_frames, star,
)

EXAMPLES = r'''
>>> house, kite = (5, ((0, 1), (0, 2), (1, 3), (2, 3), (3, 4))), (4, ((0, 1), (0, 2), (1, 2), (2, 3)))
>>> is_frame(house), is_frame((2, ())), is_frame((3, ((0, 1),))), is_frame((2, ((1, 0),))), is_frame((2, [(0, 1)]))
(True, False, False, False, False)
>>> neighbours(house, 3), parts(house), parts((4, ((0, 2), (1, 3)))), part_of((4, ((0, 2), (1, 3))), 3)
((1, 2, 4), ((0, 1, 2, 3, 4),), ((0, 2), (1, 3)), (1, 3))
>>> is_two_coloured(kite), colours(house), colours((4, ((0, 2), (1, 3)))), is_colours(house, (1, 0, 0, 1, 0))
(False, (0, 1, 1, 0, 1), (0, 0, 1, 1), False)
>>> [is_odd_ring(kite, own) for own in ((2, 1, 0, 2), (0, 1, 2), (0, 1, 0), [0, 1, 2, 0])], is_odd_ring(kite, odd_ring(kite))
([True, False, False, False], True)
>>> row_frame(3), ring_frame(4), floor_frame(2, 3)
((3, ((0, 1), (1, 2))), (4, ((0, 1), (0, 3), (1, 2), (2, 3))), (6, ((0, 1), (0, 3), (1, 2), (1, 4), (2, 5), (3, 4), (4, 5))))
>>> renamed(kite, (3, 2, 1, 0)), put_apart(row_frame(2), row_frame(3))
((4, ((0, 1), (1, 2), (1, 3), (2, 3))), (5, ((0, 1), (2, 3), (3, 4))))
>>> colours(kite)
raises CanNot()
>>> odd_ring(house)
raises CanNot()
>>> neighbours(house, 5)
raises NoJack(jack=5)
>>> ring_frame(2)
raises Unfit()
'''

NO_FRAMES = NO_THINGS + (
    (), (2,), (2, ((0, 1),), ()), (((0, 1),), 2), (2, ()), (1, ()), (0, ()), (-2, ()), (1, ((0, 1),)), (1, ((0, 0),)),
    (0, ((0, 1),)), (2, ((1, 0),)), (2, ((0, 0),)), (2, ((1, 1),)), (2, ((0, 1), (0, 1))), (3, ((0, 1),)),
    (3, ((1, 2), (0, 1))), (3, ((0, 1), (0, 2), (0, 2))), (3, ((0, 1), (1, 3))), (2, ((0, 2),)), (2, ((-1, 0),)),
    (3, ((-1, 1), (0, 2))), (True, ((0, 1),)), (2, ((False, True),)), (2, ((0, True),)), (2, ((False, 1),)),
    (2, [(0, 1)]), (2, ([0, 1],)), [2, ((0, 1),)], (2, ((0, 1, 1),)), (2, ((0,),)), (2, (0, 1)), (2, (((0, 1),),)),
    ("2", ((0, 1),)), (2, (("0", "1"),)), (2, "01"), (2, ("01",)), (2, None), (None, ((0, 1),)), (2, ((0, None),)),
    (3, ((0, 1), (1, 2), "a")), (3, ((0, 1), None, (1, 2))), (4, ((0, 1), (2, 3), (0, 2))), (10 ** 9, ((0, 1),)),
    (10 ** 30, ()), (2, ((0, 1), ())), (2, nested(10)), (nested(11), ((0, 1),)), (3, ((0, 1), (1, 10 ** 20))),
)

NO_NUMBERS = (None, True, False, "0", "", (), (0,), [0], [])


def slow_parts(frame):
    steps = lengths(frame)
    return tuple(sorted({
        tuple(far for far in range(frame[0]) if steps[jack][far] is not None) for jack in range(frame[0])
    }))


def slow_colours(frame):
    """All colours, the least jack of each part 0, by going through all."""
    least = [part[0] for part in slow_parts(frame)]
    return [
        own for own in itertools.product((0, 1), repeat=frame[0])
        if all(own[low] != own[high] for low, high in frame[1]) and all(own[jack] == 0 for jack in least)
    ]


def slow_is_odd_ring(frame, thing):
    """Whether a tuple of numbers is an odd ring, word by word as it is told."""
    joined = set(frame[1]) | {(high, low) for low, high in frame[1]}
    return (
        len(thing) > 1 and thing[0] == thing[-1] and len(thing) % 2 == 0
        and all(pair in joined for pair in zip(thing, thing[1:]))
        and all(thing[1:].count(jack) == 1 for jack in thing)
    )


class Frames(Case):

    def test_examples(self):
        self.examples(EXAMPLES, {**vars(frames), **vars(errors)})

    def test_is_frame(self):
        self.none_of(is_frame, NO_FRAMES)
        for frame in list(small_frames()) + some_frames() + [FLOOR, WIDE, WIDE_TWO, full(8)]:
            self.assertIs(self.tell(is_frame, frame), True)
            self.assertIs(is_frame(listed(frame)), False)
            self.assertIs(is_frame(frame + ((),)), False)

    def test_is_frame_of_all_sets_of_pairs(self):
        for n in (2, 3):
            pairs = [(low, high) for low in range(-1, n + 1) for high in range(-1, n + 1)]
            for many in range(4):
                for beams in itertools.product(pairs, repeat=many):
                    wanted = (
                        all(0 <= low < high < n for low, high in beams) and list(beams) == sorted(set(beams))
                        and {jack for beam in beams for jack in beam} == set(range(n))
                    )
                    self.assertIs(is_frame((n, beams)), wanted, (n, beams))

    def test_is_frame_whatever_the_bounds(self):
        far = 3000
        self.assertIs(is_frame((far, tuple((jack, jack + 1) for jack in range(far - 1)))), True)
        self.assertIs(is_frame(full(30)), True)
        self.assertIs(is_frame((far + 1, tuple((jack, jack + 1) for jack in range(far - 1)))), False)

    def test_neighbours(self):
        for frame in some_frames() + [FLOOR, WIDE]:
            steps = lengths(frame)
            for jack in range(frame[0]):
                wanted = tuple(far for far in range(frame[0]) if steps[jack][far] == 1)
                self.assertEqual(self.tell(neighbours, frame, jack), wanted)

    def test_parts(self):
        for frame in list(small_frames()) + some_frames():
            told = self.tell(parts, frame)
            self.assertEqual(told, slow_parts(frame))
            for jack in range(frame[0]):
                own = [part for part in told if jack in part]
                self.assertEqual([self.tell(part_of, frame, jack)], own)
            for low, high in frame[1]:
                self.assertEqual(part_of(frame, low), part_of(frame, high))

    def test_colours_or_an_odd_ring(self):
        for frame in list(small_frames()) + some_frames():
            wanted = slow_colours(frame)
            self.assertIs(self.tell(is_two_coloured, frame), bool(wanted))
            if wanted:
                self.assertEqual([self.tell(colours, frame)], wanted)
                self.refused(errors.CanNot, odd_ring, frame)
            else:
                self.refused(errors.CanNot, colours, frame)
                told = self.tell(odd_ring, frame)
                self.assertTrue(slow_is_odd_ring(frame, told))
                self.assertIs(is_odd_ring(frame, told), True)
            for own in itertools.product((0, 1), repeat=frame[0]):
                self.assertIs(is_colours(frame, own), own in wanted)

    def test_is_colours_of_what_is_none(self):
        self.none_of(lambda thing: is_colours(HOUSE, thing))
        self.none_of(lambda thing: is_colours(KITE, thing), NO_THINGS + ((), (0, 1, 1, 0), (0, 1, 0, 1)))
        self.none_of(lambda thing: is_colours(row(2), thing), (
            (False, True), (0, True), (False, 1), [0, 1], (1, 0), (0, 1, 0), (0,), (), (0, -1), (0, 0), (0, 3), ("0", 1),
            (None, 1), ((0, 1),), ((0,), (1,)),
        ))
        self.assertIs(is_colours(row(2), (0, 1)), True)
        self.assertIs(self.tell(is_colours, HOUSE, (0, 1, 1, 0, 1)), True)

    def test_is_odd_ring_of_all_short_tuples(self):
        for frame in (row(3), ring(3), KITE, star(4), full(4)):
            for long in range(6):
                for own in itertools.product(range(-1, frame[0] + 1), repeat=long):
                    self.assertIs(is_odd_ring(frame, own), slow_is_odd_ring(frame, own), own)
        self.assertIs(is_odd_ring(ring(5), (3, 2, 1, 0, 4, 3)), True)
        self.assertIs(is_odd_ring(ring(5), (3, 2, 1, 0, 4)), False)
        self.assertIs(is_odd_ring(full(5), (0, 1, 2, 0, 3, 4, 0)), False)
        self.assertIs(is_odd_ring(full(5), (0, 1, 2, 3, 4, 0)), True)
        self.assertIs(is_odd_ring(ring(6), (0, 1, 2, 3, 4, 5, 0)), False)
        self.assertIs(is_odd_ring(full(5), (0, 1, 2, 0, 1, 2, 0)), False)

    def test_is_odd_ring_of_what_is_none(self):
        self.none_of(lambda thing: is_odd_ring(KITE, thing), NO_THINGS + (
            (), (0,), (0, 0), (False, True, 2, False), (0, True, 2, 0), [0, 1, 2, 0], (0, 1, 2, 0, 1), (0, 1, 3, 0),
            (2, 3, 2), (0, 1, 2, "0"), ("0", 1, 2, "0"), (None, 1, 2, None), ((0, 1, 2, 0),), (-4, 1, 2, -4),
            (0, 1, 2, 3, 2, 0), ((0,), 1, 2, (0,)), (0, 1, 2, False), (0, 1, 10 ** 20, 0),
        ))
        self.assertIs(self.tell(is_odd_ring, KITE, (0, 2, 1, 0)), True)

    def test_frames_at_the_bounds(self):
        for frame in (WIDE, WIDE_TWO, FLOOR, full(8), star(14), ring(13), ring(14)):
            coloured = is_two_coloured(frame)
            self.assertEqual(coloured, frame in (WIDE_TWO, FLOOR, star(14), ring(14)))
            self.assertEqual(self.tell(parts, frame), (tuple(range(frame[0])),))
            if coloured:
                told = self.tell(colours, frame)
                self.assertTrue(all(told[low] != told[high] for low, high in frame[1]) and told[0] == 0)
            else:
                self.assertTrue(slow_is_odd_ring(frame, self.tell(odd_ring, frame)))

    def test_odd_rings_far_from_the_first_jack(self):
        tail = (9, ((0, 1), (1, 2), (2, 3), (3, 4), (3, 8), (4, 5), (5, 6), (6, 7), (7, 8)))
        self.assertIs(is_two_coloured(tail), True)
        tail = (8, ((0, 1), (1, 2), (2, 3), (3, 4), (3, 7), (4, 5), (5, 6), (6, 7)))
        self.assertEqual(sorted(odd_ring(tail)[1:]), [3, 4, 5, 6, 7])
        second = (7, ((0, 1), (2, 3), (3, 4), (3, 5), (4, 6), (5, 6)))
        self.assertIs(is_two_coloured(second), True)
        second = (6, ((0, 1), (2, 3), (3, 4), (3, 5), (4, 5)))
        self.assertEqual(sorted(odd_ring(second)[1:]), [3, 4, 5])

    def test_rows_rings_and_floors(self):
        for n in range(2, 15):
            self.assertEqual(self.tell(row_frame, n), row(n))
            self.assertIs(is_two_coloured(row_frame(n)), True)
        for n in range(3, 15):
            self.assertEqual(self.tell(ring_frame, n), ring(n))
            self.assertIs(is_two_coloured(ring_frame(n)), n % 2 == 0)
        for across in range(1, 7):
            for down in range(1, 7):
                if across * down > 1:
                    self.check_floor(across, down)
        self.assertEqual(floor_frame(1, 4), row(4))
        self.assertEqual(floor_frame(4, 1), row(4))
        self.assertEqual(floor_frame(3, 4), FLOOR)

    def check_floor(self, across, down):
        beams = []
        for low, high in itertools.combinations(range(across * down), 2):
            far = abs(low // down - high // down) + abs(low % down - high % down)
            if far == 1:
                beams.append((low, high))
        told = self.tell(floor_frame, across, down)
        self.assertEqual(told, (across * down, tuple(beams)))
        self.assertIs(is_frame(told) and is_two_coloured(told), True)

    def test_sizes_that_are_none(self):
        for own in NO_NUMBERS + (1, 0, -1, -5):
            self.refused(errors.Unfit, row_frame, own)
        for own in NO_NUMBERS + (2, 1, 0, -3):
            self.refused(errors.Unfit, ring_frame, own)
        for own in NO_NUMBERS + (0, -1, -2):
            self.refused(errors.Unfit, floor_frame, own, 3)
            self.refused(errors.Unfit, floor_frame, 3, own)
            self.refused(errors.Unfit, floor_frame, own, own)
        self.refused(errors.Unfit, floor_frame, 1, 1)
        self.refused(errors.Unfit, floor_frame, True, 2)
        self.refused(errors.Unfit, floor_frame, -2, -3)

    def test_renamed_and_back(self):
        maker = Maker(3)
        for frame in list(small_frames()) + some_frames() + [FLOOR, WIDE]:
            for _ in range(3):
                names = tuple(maker.mixed(range(frame[0])))
                told = self.tell(renamed, frame, names)
                self.assertIs(is_frame(told), True)
                beams = {frozenset((names[low], names[high])) for low, high in frame[1]}
                self.assertEqual({frozenset(beam) for beam in told[1]}, beams)
                back = tuple(names.index(jack) for jack in range(frame[0]))
                self.assertEqual(renamed(told, back), frame)
                called = tuple(sorted(tuple(sorted(names[jack] for jack in part)) for part in parts(frame)))
                self.assertEqual(parts(told), called)
                self.assertEqual(is_two_coloured(told), is_two_coloured(frame))

    def test_names_that_are_none(self):
        wrong = (
            (), (0, 1), (0, 1, 2, 2), (0, 1, 2, 4), (1, 2, 3, 4), (0, 1, 2, 3, 4), (0, 1, 2, True), (0, True, 2, 3),
            (False, 1, 2, 3), (0, 1, 2, -1), (0, 1, 2, "3"), (0, 1, 2, None), ((0, 1, 2, 3),), None, 3, "0123", True,
            (0, 1, 2, (3,)), (0, 1, 2, ()),
        )
        for names in wrong:
            self.refused(errors.Unfit, renamed, KITE, names)
        self.assertEqual(renamed(KITE, [0, 1, 2, 3]), KITE)

    def test_put_apart(self):
        all_frames = some_frames()
        for one in all_frames[:20]:
            for other in all_frames[5:25:3]:
                told = self.tell(put_apart, one, other)
                self.assertIs(is_frame(told), True)
                self.assertEqual(told[0], one[0] + other[0])
                self.assertEqual(told[1], one[1] + tuple((low + one[0], high + one[0]) for low, high in other[1]))
                self.assertEqual(is_two_coloured(told), is_two_coloured(one) and is_two_coloured(other))
                behind = tuple(tuple(jack + one[0] for jack in part) for part in parts(other))
                self.assertEqual(parts(told), parts(one) + behind)

    def test_unfit_frames_ahead_of_all(self):
        for thing in NO_FRAMES:
            # A list may stand for a tuple here: what is a frame then is none of these.
            if is_frame(self.as_tuples(thing)):
                continue
            for function in (parts, is_two_coloured, colours, odd_ring):
                self.refused(errors.Unfit, function, thing)
            for function in (neighbours, part_of):
                self.refused(errors.Unfit, function, thing, 0)
                self.refused(errors.Unfit, function, thing, -1)
            for function in (is_colours, is_odd_ring):
                self.refused(errors.Unfit, function, thing, (0, 1))
                self.refused(errors.Unfit, function, thing, None)
            self.refused(errors.Unfit, renamed, thing, (0, 1))
            self.refused(errors.Unfit, put_apart, thing, KITE)
            self.refused(errors.Unfit, put_apart, KITE, thing)

    def as_tuples(self, value):
        if isinstance(value, (list, tuple)):
            return tuple(self.as_tuples(part) for part in value)
        return value

    def test_jacks(self):
        for frame in (KITE, HOUSE, APART, row(2)):
            for function in (neighbours, part_of):
                for jack in (-1, -frame[0], frame[0], frame[0] + 1, 10 ** 20, -10 ** 20):
                    self.refused(errors.NoJack, function, frame, jack, jack=jack)
                for jack in NO_NUMBERS:
                    self.refused(errors.Unfit, function, frame, jack)

    def test_lists_for_tuples(self):
        self.assertEqual(colours([2, [[0, 1]]]), (0, 1))
        self.assertEqual(parts([3, ([0, 1], (1, 2))]), ((0, 1, 2),))
        self.assertEqual(renamed(frame=[2, [[0, 1]]], names=[1, 0]), (2, ((0, 1),)))
        self.assertEqual(put_apart(one=[2, [[0, 1]]], other=(2, [(0, 1)])), (4, ((0, 1), (2, 3))))
        self.assertEqual(floor_frame(columns=2, rows=1), row(2))
