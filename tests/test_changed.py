"""Promise [22]: beams and jacks put in and out, and what a beam out saves; and of [3] TooMany for it."""

import itertools

from evenlifts import changed, errors
from evenlifts.changed import (
    beam_less, beam_more, bears, greatest_saving, heights_let, is_saving_paper, jack_less, jack_more, loose_beams, saving,
    saving_paper,
)
from evenlifts.frames import is_frame
from evenlifts.fewest import fewest
from making import (
    APART, Case, FLOOR, HOUSE, KITE, Maker, NO_THINGS, WIDE, WIDE_TWO, full, listed, ring, row, small_frames, some_frames,
    stands, star, walk,
)
from slowly import fewest_deeds, lifted, made, slow_passings

EXAMPLES = r'''
>>> row, ring, three = (3, ((0, 1), (1, 2))), (4, ((0, 1), (0, 3), (1, 2), (2, 3))), (3, ((0, 1), (0, 2), (1, 2)))
>>> beam_more(row, (0, 2)) == three, beam_less(ring, (0, 3)), [loose_beams(own) for own in (row, three)]
(True, (4, ((0, 1), (1, 2), (2, 3))), [(), ((0, 1), (0, 2), (1, 2))])
>>> jack_more(row, (0, 2)) == ring, jack_less(ring, 1), bears(row, (0, 1, 2), (0, 2))
(True, (3, ((0, 2), (1, 2))), False)
>>> [heights_let(row, own, (0, 2)) for own in ((0, 1, 2), (0, 0, 0), (0, 1, 0))], heights_let(row, (0, 1, 2), (1,))
([(1,), (-1, 0, 1), (-1, 0, 1)], (0, 1, 2))
>>> low, two, four = (0, 0, 0), (2, 2, 2), (4, 4, 4)
>>> saving(three, low, two, (0, 2)), greatest_saving(three, low, four), greatest_saving(ring, (0, 0, 0, 0), (3, 3, 3, 3))[0]
(1, (2, ((0, 1), (0, 2), (1, 2))), 0)
>>> star = (4, ((0, 1), (0, 2), (0, 3), (1, 2)))
>>> loose_beams(star), greatest_saving(star, (0, 0, 0, 0), (2, 2, 2, 2))
(((0, 1), (0, 2), (1, 2)), (1, ((1, 2),)))
>>> [is_saving_paper(three, low, two, (0, 2), own) for own in ((((0, 1),), ((0, 1), (2, 1))), (((0, 1),), ((1, 1),)), [((0, 1),), ((0, 1), (2, 1))])]
[True, False, False]
>>> beam_less(row, (0, 2))
raises NoBeam(beam=(0, 2))
>>> saving(row, low, two, (0, 1))
raises CanNot()
'''

ROW, RING, THREE, LOW, TWO = row(3), ring(4), ring(3), (0, 0, 0), (2, 2, 2)
NINE_ODD = (9, tuple(sorted([(jack, jack + 1) for jack in range(8)] + [(0, 2)])))
EIGHT_ODD = (8, tuple(sorted([(jack, jack + 1) for jack in range(7)] + [(0, 2)])))


def without(frame, beam):
    return (frame[0], tuple(own for own in frame[1] if own != beam))


def slow_loose(frame):
    """The beams both ends of which have another one."""
    return tuple(
        beam for beam in frame[1] if all(any(jack in own for own in frame[1] if own != beam) for jack in beam))


def pairs_in(n):
    return list(itertools.combinations(range(n), 2))


class Changed(Case):

    def test_examples(self):
        self.examples(EXAMPLES, {**vars(changed), **vars(errors)})

    def test_a_beam_more_and_less(self):
        for frame in some_frames():
            for beam in pairs_in(frame[0]):
                if beam in frame[1]:
                    self.refused(errors.CanNot, beam_more, frame, beam)
                    if beam in slow_loose(frame):
                        less = self.tell(beam_less, frame, beam)
                        self.assertEqual(less, without(frame, beam))
                        self.assertTrue(is_frame(less))
                        self.assertEqual(beam_more(less, beam), frame)
                    else:
                        self.refused(errors.CanNot, beam_less, frame, beam)
                else:
                    more = self.tell(beam_more, frame, beam)
                    self.assertEqual(more, (frame[0], tuple(sorted(frame[1] + (beam,)))))
                    self.assertTrue(is_frame(more))
                    self.assertEqual(beam_less(more, beam), frame)
                    self.refused(errors.NoBeam, beam_less, frame, beam, beam=beam)

    def test_loose_beams(self):
        for frame in list(small_frames()) + some_frames() + [WIDE, WIDE_TWO, FLOOR]:
            told = self.tell(loose_beams, frame)
            self.assertEqual(told, slow_loose(frame))
            self.assertEqual(told, tuple(beam for beam in frame[1] if is_frame(without(frame, beam))))

    def test_no_jack(self):
        wrong = (((-1, 1), -1), ((-3, -2), -3), ((0, 3), 3), ((3, 4), 3), ((-1, 3), -1), ((2, 10 ** 6), 10 ** 6))
        for beam, jack in wrong:
            self.refused(errors.NoJack, beam_more, ROW, beam, jack=jack)
            self.refused(errors.NoJack, beam_less, ROW, beam, jack=jack)
            self.refused(errors.NoJack, bears, ROW, LOW, beam, jack=jack)
            self.refused(errors.NoJack, saving, ROW, LOW, TWO, beam, jack=jack)
            self.refused(errors.NoJack, saving_paper, ROW, LOW, TWO, beam, jack=jack)
            for thing in (None, ((), ())):
                self.refused(errors.NoJack, is_saving_paper, ROW, LOW, TWO, beam, thing, jack=jack)
        for lot, jack in (((-1,), -1), ((0, 3), 3), ((-2, -1), -2), ((0, 1, 2, 3, 4), 3), ((7, 9), 7)):
            self.refused(errors.NoJack, jack_more, ROW, lot, jack=jack)
            self.refused(errors.NoJack, heights_let, ROW, LOW, lot, jack=jack)
        for jack in (-1, 3, 10 ** 6):
            self.refused(errors.NoJack, jack_less, ROW, jack, jack=jack)
            self.refused(errors.NoJack, jack_less, row(2), jack, jack=jack)

    def test_a_jack_more(self):
        for frame in some_frames():
            n = frame[0]
            for many in (1, 2, n):
                for lot in list(itertools.combinations(range(n), many))[:6]:
                    more = self.tell(jack_more, frame, lot)
                    self.assertEqual(more, (n + 1, tuple(sorted(frame[1] + tuple((jack, n) for jack in lot)))))
                    self.assertTrue(is_frame(more))
                    self.assertEqual(jack_less(more, n), frame)

    def test_a_jack_less(self):
        cannot = 0
        for frame in list(small_frames()) + some_frames():
            for jack in range(frame[0]):
                number = {own: own - (own > jack) for own in range(frame[0])}
                beams = tuple(sorted(
                    (number[low], number[high]) for low, high in frame[1] if jack not in (low, high)))
                left = {own for beam in beams for own in beam}
                if len(left) == frame[0] - 1 and frame[0] > 2:
                    self.assertEqual(self.tell(jack_less, frame, jack), (frame[0] - 1, beams))
                else:
                    cannot += 1
                    self.refused(errors.CanNot, jack_less, frame, jack)
        self.assertGreater(cannot, 50)
        self.refused(errors.CanNot, jack_less, row(2), 0)
        self.refused(errors.CanNot, jack_less, star(5), 0)
        self.assertEqual(jack_less(star(5), 3), star(4))

    def test_bears(self):
        maker = Maker(51)
        for frame in some_frames():
            for _ in range(4):
                stand = maker.stand(frame, -3, 3)
                for beam in pairs_in(frame[0]):
                    told = self.tell(bears, frame, stand, beam)
                    self.assertIs(told, abs(stand[beam[0]] - stand[beam[1]]) <= 1)
                    if beam not in frame[1]:
                        self.assertIs(told, stands(beam_more(frame, beam), stand))
                    else:
                        self.assertIs(told, True)

    def test_heights_let(self):
        maker, none = Maker(52), 0
        for frame in some_frames():
            for _ in range(4):
                stand = maker.stand(frame, -2, 2)
                lot = tuple(jack for jack in range(frame[0]) if maker.below(2)) or (0,)
                more = jack_more(frame, lot)
                wanted = tuple(height for height in range(-9, 10) if stands(more, stand + (height,)))
                self.assertEqual(self.tell(heights_let, frame, stand, lot), wanted)
                none += wanted == ()
        self.assertGreater(none, 5)

    def test_savings_beside_a_search(self):
        for frame, one, other in made(53, 2, 1, 9, -1, 3, [ring(3), ring(4), KITE, full(4), HOUSE, star(4)]):
            many = fewest_deeds(frame, one, other)
            for beam in slow_loose(frame):
                wanted = many - fewest_deeds(without(frame, beam), one, other)
                self.assertEqual(self.tell(saving, frame, one, other, beam), wanted)

    def test_savings_beside_all_passings(self):
        saved = 0
        for frame, one, other in list(made(54, 3, 0, 12, -2, 3)) + list(lifted(59)):
            own = max(len(passing) for passing in slow_passings(frame, one, other))
            told = {}
            for beam in slow_loose(frame):
                told[beam] = max(len(passing) for passing in slow_passings(without(frame, beam), one, other)) - own
                self.assertEqual(saving(frame, one, other, beam), told[beam])
                levels = [set(range(min(one[jack], other[jack]) + 1, max(one[jack], other[jack]))) for jack in beam]
                self.assertTrue(0 <= told[beam] <= len(levels[0] & levels[1]))
                self.assertEqual(saving(frame, other, one, beam), told[beam])
                saved += told[beam]
            if told:
                most = max(told.values())
                wanted = (most, tuple(beam for beam in frame[1] if told.get(beam) == most))
                self.assertEqual(self.tell(greatest_saving, frame, one, other), wanted)
            else:
                self.refused(errors.CanNot, greatest_saving, frame, one, other)
        self.assertGreater(saved, 10)

    def test_saving_papers(self):
        judged = 0
        for frame, one, other in made(55, 2, 1, 6, -1, 3, [ring(3), ring(4), KITE, full(4), ring(5), HOUSE]):
            for beam in slow_loose(frame)[:3]:
                near, far = slow_passings(frame, one, other), slow_passings(without(frame, beam), one, other)
                most = [max(len(own) for own in known) for known in (near, far)]
                paper = self.tell(saving_paper, frame, one, other, beam)
                self.assertTrue(paper[0] in near and paper[1] in far)
                self.assertEqual([len(own) for own in paper], most)
                self.assertEqual(saving(frame, one, other, beam), len(paper[1]) - len(paper[0]))
                for first in far:
                    for last in far:
                        wanted = first in near and len(first) == most[0] and len(last) == most[1]
                        self.assertIs(is_saving_paper(frame, one, other, beam, (first, last)), wanted)
                        judged += wanted
                for wrong in (paper[::-1], listed(paper), list(paper), paper + ((),), paper[:1], (paper,)):
                    wanted = wrong == paper[::-1] and paper[1] in near and len(paper[0]) == len(paper[1])
                    self.assertIs(is_saving_paper(frame, one, other, beam, wrong), wanted)
                self.none_of(lambda thing: is_saving_paper(frame, one, other, beam, thing),
                             [thing for thing in NO_THINGS if thing != ((), ()) or most != [0, 0]])
        self.assertGreater(judged, 30)
        self.assertIs(is_saving_paper(THREE, LOW, LOW, (0, 2), ((), ())), True)
        self.tell(is_saving_paper, THREE, LOW, TWO, (0, 2), (((0, 1),), ((0, 1), (2, 1))))

    def test_without_a_loose_beam_all_stands_stay(self):
        maker = Maker(56)
        for frame in some_frames():
            for beam in loose_beams(frame):
                less = beam_less(frame, beam)
                stand = maker.stand(frame, -2, 3)
                self.assertTrue(stands(less, stand))
                plan = maker.plan(frame, stand, 6, -3, 4)
                self.assertEqual(walk(less, stand, plan), walk(frame, stand, plan))

    def test_deeds_with_a_jack_more(self):
        maker, seen = Maker(57), 0
        for frame, one, other in made(58, 6, 0, 15, -1, 3):
            lot = tuple(sorted(maker.mixed(range(frame[0]))[:maker.among(1, 3)]))
            first, last = heights_let(frame, one, lot), heights_let(frame, other, lot)
            if first and last and frame[0] < 8:
                low, high = maker.one_of(first), maker.one_of(last)
                more = fewest(jack_more(frame, lot), one + (low,), other + (high,)) - fewest(frame, one, other)
                self.assertTrue((abs(low - high) + 1) // 2 <= more <= abs(low - high))
                seen += abs(low - high) > 1
        self.assertGreater(seen, 15)

    def test_order_of_errors(self):
        far, zeros = (1000,) * 3, (0,) * 9
        for function, more in ((saving, ()), (saving_paper, ()), (is_saving_paper, (None,)), (is_saving_paper, (((), ()),))):
            # TooMany, NoJack, NoBeam, CanNot.
            self.refused(errors.TooMany, function, ROW, LOW, far, (0, 9), *more)
            self.refused(errors.TooMany, function, NINE_ODD, zeros, zeros, (0, 9), *more)
            self.refused(errors.TooMany, function, ROW, LOW, far, (0, 2), *more)
            self.refused(errors.TooMany, function, ROW, LOW, far, (0, 1), *more)
            self.refused(errors.NoJack, function, ROW, LOW, TWO, (0, 3), *more, jack=3)
            self.refused(errors.NoBeam, function, ROW, LOW, TWO, (0, 2), *more, beam=(0, 2))
            self.refused(errors.CanNot, function, ROW, LOW, TWO, (0, 1), *more)
        self.refused(errors.TooMany, greatest_saving, ROW, LOW, far)
        self.refused(errors.TooMany, greatest_saving, NINE_ODD, zeros, zeros)
        self.refused(errors.CanNot, greatest_saving, ROW, LOW, TWO)
        self.refused(errors.NoBeam, beam_less, APART, (0, 1), beam=(0, 1))
        self.refused(errors.CanNot, beam_less, APART, (0, 3))

    def test_too_many(self):
        for function, more in ((saving, ((0, 2),)), (greatest_saving, ()), (saving_paper, ((0, 2),)),
                               (is_saving_paper, ((0, 2), ()))):
            self.refused(errors.TooMany, function, THREE, LOW, (161, 160, 160), *more)
            self.refused(errors.TooMany, function, THREE, (161, 160, 160), LOW, *more)
            function(THREE, LOW, (160, 160, 160), *more)
            self.refused(errors.TooMany, function, NINE_ODD, (0,) * 9, (1,) * 9, *more)
            function(EIGHT_ODD, (0,) * 8, (1,) * 8, *more)
            function(ring(10), (0,) * 10, (1,) * 10, *(((0, 9),) if more else ()) + more[1:])
        # Nine jacks are too many also if the beam is the one that makes an odd ring.
        self.refused(errors.TooMany, saving, NINE_ODD, (0,) * 9, (2,) * 9, (0, 2))
        # What lists nothing asks no bound.
        self.assertEqual(heights_let(ROW, (10 ** 6,) * 3, (0,)), (10 ** 6 - 1, 10 ** 6, 10 ** 6 + 1))
        self.assertEqual(len(loose_beams(WIDE)), 24)

    def test_at_the_bounds(self):
        twelve, forty = (0,) * 12, (40,) * 12
        self.assertEqual(greatest_saving(WIDE_TWO, twelve, forty), (0, WIDE_TWO[1]))
        self.assertEqual(greatest_saving(FLOOR, twelve, forty), (0, FLOOR[1]))
        frame = full(7)
        self.assertEqual(greatest_saving(frame, (0,) * 7, (68,) * 7)[0], 34)
        paper = saving_paper(frame, (0,) * 7, (68,) * 7, (2, 5))
        self.assertTrue(is_saving_paper(frame, (0,) * 7, (68,) * 7, (2, 5), paper))
        big = 10 ** 6
        self.assertTrue(bears(FLOOR, (big,) * 12, (0, 11)))
        self.assertEqual(jack_more(WIDE_TWO, tuple(range(12)))[0], 13)
        self.assertEqual(len(jack_less(WIDE, 5)[1]), 20)
