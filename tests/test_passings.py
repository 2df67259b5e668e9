"""Promise [10]: passings; and of [3] TooMany for more than 8 jacks."""

import itertools

from evenlifts import errors, passings
from evenlifts.frames import is_two_coloured
from evenlifts.passable import beside, passable
from evenlifts.passings import (
    all_passings, always_passed, barred_by, filled_up, greatest_passing, how_many_greatest, how_many_passings,
    is_greatest, is_passing, lots_at, most_passed, most_with, most_without, never_passed,
)
from making import (
    APART, Case, FLOOR, HOUSE, KITE, Maker, NO_THINGS, WIDE, WIDE_TWO, are_close, full, listed, pairs_of, ring, row,
    small_frames, some_frames, star,
)
from slowly import fewest_deeds, made, slow_passings

EXAMPLES = r'''
>>> path, tri, low, two, high = (3, ((0, 1), (1, 2))), (3, ((0, 1), (0, 2), (1, 2))), (0, 0, 0), (2, 2, 2), (3, 3, 3)
>>> [is_passing(path, low, high, own) for own in (((0, 1), (1, 2)), ((0, 1), (1, 1)), ((0, 1), (0, 2)), ((0, 3),))]
[True, False, False, False]
>>> lots_at(path, low, high, 1), lots_at(path, low, high, 3), barred_by(path, low, high, ((1, 1),)), filled_up(path, low, high, ((1, 1),))
([(), (0,), (0, 2), (1,), (2,)], [()], ((0, 1), (1, 2), (2, 1)), ((0, 2), (1, 1), (2, 2)))
>>> all_passings(path, low, two), how_many_passings(path, low, high), how_many_passings(tri, low, two)
([(), ((0, 1),), ((0, 1), (2, 1)), ((1, 1),), ((2, 1),)], 17, 4)
>>> [(most_passed(*own), how_many_greatest(*own)) for own in ((path, low, high), (path, low, two), (tri, low, two))]
[(3, 2), (2, 1), (1, 3)]
>>> greatest_passing(path, low, two), is_greatest(path, low, high, ((0, 1), (1, 2), (2, 1))), is_greatest(path, low, high, ((0, 1), (2, 2)))
(((0, 1), (2, 1)), True, False)
>>> always_passed(path, low, two), never_passed(path, low, two), always_passed(path, low, high)
(((0, 1), (2, 1)), ((1, 1),), ())
>>> [(most_with(path, low, two, own), most_without(path, low, two, own)) for own in ((0, 1), (1, 1))]
[(2, 1), (1, 2)]
>>> most_with(path, low, two, (0, 2))
raises CanNot()
'''

PATH, LOW, HIGH = row(3), (0, 0, 0), (3, 3, 3)

# Jack 0 has a beam to each other one; (1, 2) makes a ring of three.
STARS = (9, tuple((0, jack) for jack in range(1, 9)))
RINGED = (9, tuple(sorted([(0, jack) for jack in range(1, 9)] + [(1, 2)])))
RINGED_8 = (8, tuple(sorted([(0, jack) for jack in range(1, 8)] + [(1, 2)])))

COUNTING = (how_many_passings, how_many_greatest, all_passings)
TELLING = (most_passed, greatest_passing, always_passed, never_passed)


class Passings(Case):

    def test_examples(self):
        self.examples(EXAMPLES, {**vars(passings), **vars(errors)})

    def test_is_passing_of_all_sets(self):
        for frame, one, other in made(51, 2, 3, 9):
            known = set(slow_passings(frame, one, other))
            pairs = pairs_of(one, other)
            for many in range(len(pairs) + 1):
                for own in itertools.combinations(pairs, many):
                    self.assertIs(is_passing(frame, one, other, own), own in known)
            for own in sorted(known)[:8]:
                self.assertIs(self.tell(is_passing, frame, one, other, own), True)
                self.assertIs(is_passing(frame, one, other, listed(own)), False)
                if len(own) > 1:
                    self.assertIs(is_passing(frame, one, other, own[::-1]), False)

    def test_is_passing_of_what_is_none(self):
        wrong = NO_THINGS + (
            [], ((0, 1), (0, 1)), ((1, 2), (0, 1)), ((0, 1), (1, 1)), ((0, 1), (0, 2)), ((0, 3),), ((0, 0),), ((3, 1),),
            ((-1, 1),), ((-3, 1),), ((0, 1, 0),), ((0,),), ((True, 1),), ((0, True),), ([0, 1],), (0, 1), [(0, 1)],
            ((0, 1), None), ((0, 1), (1, "2")), ((0, "1"),), (((0, 1),),), ((0, 1), (1, 2), (1, 2)), ((0, 10 ** 20),),
            ((0, 1), (1, 2), ()),
        )
        # Some of what is nothing elsewhere are passings here.
        wrong = [thing for thing in wrong if not (isinstance(thing, tuple) and thing in ((), ((0, 1),)))]
        wrong = wrong + [((0, True),), ((False, 1),)]
        self.none_of(lambda thing: is_passing(PATH, LOW, HIGH, thing), wrong)
        self.none_of(lambda thing: is_greatest(PATH, LOW, HIGH, thing), wrong + [(), ((0, 1),), ((0, 1), (2, 2))])
        self.assertIs(is_passing(PATH, LOW, HIGH, ()), True)
        self.assertIs(is_greatest(PATH, LOW, LOW, ()), True)

    def test_all_passings_and_how_many(self):
        for frame, one, other in made(52, 3):
            wanted = slow_passings(frame, one, other)
            self.assertEqual(self.tell(how_many_passings, frame, one, other), len(wanted))
            if len(wanted) > 2000:
                self.refused(errors.TooMany, all_passings, frame, one, other)
            else:
                self.assertEqual(self.tell(all_passings, frame, one, other), wanted)
        for frame in small_frames():
            one, other = (0,) * frame[0], (3,) * frame[0]
            self.assertEqual(all_passings(frame, one, other), slow_passings(frame, one, other))

    def test_the_greatest(self):
        for frame, one, other in made(53, 3):
            known = slow_passings(frame, one, other)
            most = max(len(own) for own in known)
            greatest = [own for own in known if len(own) == most]
            self.assertEqual(self.tell(most_passed, frame, one, other), most)
            self.assertIn(self.tell(greatest_passing, frame, one, other), greatest)
            self.assertEqual(self.tell(how_many_greatest, frame, one, other), len(greatest))
            for own in known[::7] + greatest[:20]:
                self.assertIs(is_greatest(frame, one, other, own), len(own) == most)
            self.assertIs(self.tell(is_greatest, frame, one, other, greatest[0]), True)
            self.assertIs(is_greatest(frame, one, other, listed(greatest[0])), False)
            pairs = pairs_of(one, other)
            always = tuple(pair for pair in pairs if all(pair in own for own in greatest))
            never = tuple(pair for pair in pairs if not any(pair in own for own in greatest))
            self.assertEqual(self.tell(always_passed, frame, one, other), always)
            self.assertEqual(self.tell(never_passed, frame, one, other), never)
            self.check_with_and_without(frame, one, other, known)

    def check_with_and_without(self, frame, one, other, known):
        most = max(len(own) for own in known)
        always, never = always_passed(frame, one, other), never_passed(frame, one, other)
        for at, pair in enumerate(pairs_of(one, other)):
            ask = self.tell if at < 3 else (lambda function, *values: function(*values))
            with_it, without = ask(most_with, frame, one, other, pair), ask(most_without, frame, one, other, pair)
            self.assertEqual(with_it, max(len(own) for own in known if pair in own))
            self.assertEqual(without, max(len(own) for own in known if pair not in own))
            self.assertEqual(with_it == most, pair not in never)
            self.assertEqual(without, most - 1 if pair in always else most)
            if pair in always:
                self.assertTrue(all(far in never for far in beside(frame, one, other, pair)))

    def test_lots_at(self):
        for frame, one, other in made(54, 3):
            pairs = pairs_of(one, other)
            for level in range(min(one + other) - 1, max(one + other) + 2):
                here = [jack for jack, own in pairs if own == level]
                wanted = [
                    own for many in range(len(here) + 1) for own in itertools.combinations(here, many)
                    if not any(beam in frame[1] for beam in itertools.combinations(own, 2))
                ]
                self.assertEqual(self.tell(lots_at, frame, one, other, level), sorted(wanted))
        self.assertEqual(lots_at(PATH, LOW, HIGH, 10 ** 40), [()])

    def test_passings_are_told_by_the_lots_of_levels(self):
        for frame, one, other in made(55, 1, 2, 11):
            levels = list(range(min(one + other), max(one + other) + 1))
            found = []
            for lots in itertools.product(*[lots_at(frame, one, other, level) for level in levels]):
                if not any(set(low) & set(high) for low, high in zip(lots, lots[1:])):
                    found.append(tuple(sorted((jack, level) for level, lot in zip(levels, lots) for jack in lot)))
            self.assertEqual(sorted(found), all_passings(frame, one, other))

    def test_barred_by_and_filled_up(self):
        for frame, one, other in made(56, 2, 2, 11):
            pairs, known = pairs_of(one, other), slow_passings(frame, one, other)
            for own in known[::3]:
                barred = tuple(far for far in pairs if any(are_close(frame, far, pair) for pair in own))
                self.assertEqual(self.tell(barred_by, frame, one, other, own), barred)
                full_now = set(own)
                while True:
                    more = [pair for pair in pairs if pair not in full_now
                            and not any(are_close(frame, pair, far) for far in full_now)]
                    if not more:
                        break
                    full_now.add(more[0])
                told = self.tell(filled_up, frame, one, other, own)
                self.assertEqual(told, tuple(sorted(full_now)))
                self.assertTrue(set(own) <= set(told) and told in known)
                for pair in own:
                    self.assertIs(is_passing(frame, one, other, tuple(far for far in own if far != pair)), True)

    def test_the_fewest_deeds_are_the_distance_less_the_greatest(self):
        for frame, one, other in made(57, 1, 1, 12, 0, 3):
            if frame[0] <= 5:
                far = sum(abs(low - high) for low, high in zip(one, other))
                wanted = fewest_deeds(frame, one, other)
                self.assertEqual(far - most_passed(frame, one, other), wanted)
                self.assertEqual(far - most_passed(frame, other, one), wanted)

    def test_parts_far_from_one_another(self):
        apart = (5, ((0, 1), (2, 3), (2, 4), (3, 4)))
        for by in (0, 1, 2, 3, 50, -10 ** 6):
            one, other = (0, 0, by, by, by), (3, 3, by + 3, by + 3, by + 3)
            pair, three = slow_passings(row(2), (0, 0), (3, 3)), slow_passings(ring(3), LOW, HIGH)
            self.assertEqual(how_many_passings(apart, one, other), len(pair) * len(three))
            self.assertEqual(most_passed(apart, one, other), 2 + 2)
            self.assertEqual(len(greatest_passing(apart, one, other)), 4)
            self.assertEqual(is_greatest(apart, one, other, greatest_passing(apart, one, other)), True)
            self.assertEqual(how_many_greatest(apart, one, other), 2 * 6)
            self.assertEqual(always_passed(apart, one, other), ())

    def test_level_houses(self):
        for frame in (FLOOR, WIDE_TWO, row(12), ring(12), star(12), row(2), ring(4)):
            n = frame[0]
            for high in (1, 3, 5, 480 // n - 1 + (480 // n) % 2):
                many = most_passed(frame, (0,) * n, (high,) * n)
                self.assertEqual(many, n * (high - 1) // 2)
        for frame, lesser in ((FLOOR, 6), (row(12), 6), (row(5), 2), (ring(6), 3), (row(11), 5)):
            n = frame[0]
            for high in (2, 4, 20):
                many = most_passed(frame, (0,) * n, (high,) * n)
                self.assertEqual(many, n * (high - 1) - (n * high // 2 + lesser - n))
        for high in range(1, 60):
            self.assertEqual(most_passed(full(8), (0,) * 8, (high,) * 8), high - 1)

    def test_wide_frames(self):
        maker = Maker(58)
        for frame in (FLOOR, WIDE_TWO, star(12), STARS, row(11), RINGED_8, full(8), ring(7), KITE, HOUSE, APART):
            for _ in range(2):
                one, other = maker.stand(frame, -9, 9), maker.stand(frame, 12, 30)
                self.check_wide(frame, one, other, maker)

    def check_wide(self, frame, one, other, maker):
        most = most_passed(frame, one, other)
        told = greatest_passing(frame, one, other)
        self.assertTrue(is_passing(frame, one, other, told) and len(told) == most)
        self.assertIs(is_greatest(frame, one, other, told), True)
        self.assertIs(is_greatest(frame, one, other, told[1:]), False)
        always, never = always_passed(frame, one, other), never_passed(frame, one, other)
        self.assertTrue(set(always) <= set(told) and not set(never) & set(told))
        pairs = passable(frame, one, other)
        for pair in [maker.one_of(pairs) for _ in range(12)] + list(always[:3] + never[:3]):
            with_it, without = most_with(frame, one, other, pair), most_without(frame, one, other, pair)
            self.assertEqual(max(with_it, without), most)
            self.assertEqual(with_it == most, pair not in never)
            self.assertEqual(without, most - 1 if pair in always else most)
        for own in ((), told[::2]):
            filled = filled_up(frame, one, other, own)
            self.assertEqual(sorted(filled + barred_by(frame, one, other, filled)), sorted(pairs))
            self.assertLessEqual(len(filled), most)

    def test_both_ways_of_telling_agree(self):
        maker = Maker(59)
        for frame in some_frames():
            if is_two_coloured(frame):
                one, other = maker.stand(frame, -4, 4), maker.stand(frame, 0, 9)
                # A ring of three that does not move makes the frame one that is not two-coloured.
                if frame[0] <= 5:
                    n = frame[0]
                    more = (n + 3, frame[1] + ((n, n + 1), (n, n + 2), (n + 1, n + 2)))
                    near, far = one + (0, 0, 0), other + (0, 0, 0)
                    for function in TELLING[:1] + TELLING[2:]:
                        self.assertEqual(function(more, near, far), function(frame, one, other))
                    self.assertEqual(len(greatest_passing(more, near, far)), most_passed(frame, one, other))
                    for pair in passable(frame, one, other):
                        for function in (most_with, most_without):
                            self.assertEqual(function(more, near, far, pair), function(frame, one, other, pair))

    def test_greatest_without_a_common_pair(self):
        self.assertEqual(how_many_greatest(PATH, LOW, HIGH), 2)
        self.assertEqual(always_passed(PATH, LOW, HIGH), ())
        self.assertEqual(never_passed(PATH, LOW, HIGH), ())

    def test_unfit_ahead_of_all(self):
        good = ((0, 1),)
        extra = {is_passing: None, is_greatest: None, lots_at: 1, barred_by: good, filled_up: good,
                 most_with: (0, 1), most_without: (0, 1)}
        for function in COUNTING + TELLING + tuple(extra):
            self.unfit_stands(function, *((extra[function],) if function in extra else ()))

    def test_unfit_passings_pairs_and_levels(self):
        far = (1000, 1000, 1000)
        wrong = NO_THINGS + (
            ((0, 1), (0, 1)), ((1, 2), (0, 1)), ((0, 1), (1, 1)), ((0, 1), (0, 2)), ((0, 0),), ((3, 1),), ((-1, 1),),
            ((0, 1, 0),), ((True, 1),), ((0, True),), (0, 1), ((0, 1), None), ((0, 2000),),
        )
        for passing in wrong:
            # With lists for tuples these are passings.
            if passing in ([], [[0, 1]], [(0, 1)], ([0, 1],)):
                continue
            for other in (HIGH, far):
                self.refused(errors.Unfit, barred_by, PATH, LOW, other, passing)
                self.refused(errors.Unfit, filled_up, PATH, LOW, other, passing)
        for pair in NO_THINGS + ((), (0,), (0, 1, 2), (0, True), (False, 1), (0, "1"), (0, None), ((0, 1),), (0, (1,))):
            if pair in ([0, 1], (0, 1)):
                continue
            for other in (HIGH, far):
                self.refused(errors.Unfit, most_with, PATH, LOW, other, pair)
                self.refused(errors.Unfit, most_without, PATH, LOW, other, pair)
        for level in (None, True, False, "1", (), (1,), [1]):
            for other in (HIGH, far):
                self.refused(errors.Unfit, lots_at, PATH, LOW, other, level)

    def test_can_not(self):
        wide = (FLOOR, (0,) * 12, (2,) * 12)
        for pair in ((0, 0), (0, 3), (3, 1), (-1, 1), (-3, 1), (10 ** 20, 1), (0, 10 ** 20)):
            for function in (most_with, most_without):
                self.refused(errors.CanNot, function, PATH, LOW, HIGH, pair)
                self.refused(errors.CanNot, function, ring(3), LOW, HIGH, pair)
        for function in (most_with, most_without):
            self.refused(errors.CanNot, function, *wide, (0, 2))
            self.refused(errors.CanNot, function, PATH, LOW, LOW, (0, 0))

    def test_too_many_levels(self):
        pair, three = row(2), ring(3)
        extra = {is_passing: (), is_greatest: (), lots_at: 1, barred_by: (), filled_up: (), most_with: (0, 1),
                 most_without: (0, 1)}
        for function in tuple(extra) + COUNTING + TELLING:
            more = (extra[function],) if function in extra else ()
            for frame, other in ((pair, (240, 241)), (three, (161, 160, 160)), (pair, (10 ** 6, 10 ** 6))):
                self.refused(errors.TooMany, function, frame, (0,) * frame[0], other, *more)
                self.refused(errors.TooMany, function, frame, other, (0,) * frame[0], *more)
            for frame, other in ((pair, (240, 240)), (three, (160, 160, 160)), (row(4), (120,) * 4)):
                if function != all_passings:
                    function(frame, (0,) * frame[0], other, *more)
        self.refused(errors.TooMany, most_with, pair, (0, 0), (241, 240), (9, 9))
        self.refused(errors.TooMany, is_passing, pair, (0, 0), (241, 240), None)
        self.refused(errors.TooMany, is_greatest, pair, (0, 0), (241, 240), "a")

    def test_too_many_jacks(self):
        for frame in (RINGED, WIDE, ring(9), ring(11)):
            one, other = (0,) * frame[0], (2,) * frame[0]
            for function in COUNTING + TELLING:
                self.refused(errors.TooMany, function, frame, one, other)
                self.refused(errors.TooMany, function, frame, one, one)
            for pair in ((0, 1), (0, 2), (99, 99)):
                self.refused(errors.TooMany, most_with, frame, one, other, pair)
                self.refused(errors.TooMany, most_without, frame, one, other, pair)
            for thing in ((), None, ((0, 1),)):
                self.refused(errors.TooMany, is_greatest, frame, one, other, thing)
            self.check_answers(frame, one, other)
        for frame in (STARS, FLOOR, WIDE_TWO, ring(10), row(9)):
            one, other = (0,) * frame[0], (2,) * frame[0]
            for function in COUNTING:
                self.refused(errors.TooMany, function, frame, one, other)
                self.refused(errors.TooMany, function, frame, one, one)
            for function in TELLING:
                self.tell(function, frame, one, other)
            self.assertIn(most_with(frame, one, other, (0, 1)), range(1, 20))
            self.assertIn(most_without(frame, one, other, (0, 1)), range(1, 20))
            self.assertIs(is_greatest(frame, one, other, ()), False)
            self.check_answers(frame, one, other)
        for frame in (RINGED_8, star(8), ring(8), full(8)):
            one, other = (0,) * 8, (2,) * 8
            for function in COUNTING + TELLING:
                function(frame, one, other)

    def check_answers(self, frame, one, other):
        """What asks no TooMany for many jacks answers."""
        self.assertIs(is_passing(frame, one, other, ((0, 1),)), True)
        self.assertEqual(lots_at(frame, one, other, 0), [()])
        self.assertIn((0,), lots_at(frame, one, other, 1))
        self.assertEqual(filled_up(frame, one, other, ((0, 1),))[0], (0, 1))
        around = tuple((low + high, 1) for low, high in frame[1] if 0 in (low, high))
        self.assertEqual(barred_by(frame, one, other, ((0, 1),)), tuple(sorted(around)))

    def test_too_many_passings_to_list(self):
        # A jack with k levels between has as many passings as the sets of no two levels side by side.
        pair = row(2)
        counts = {high: how_many_passings(pair, (0, 0), (high, high)) for high in range(1, 12)}
        self.assertEqual(counts[1], 1)
        for high in counts:
            if counts[high] > 2000:
                self.refused(errors.TooMany, all_passings, pair, (0, 0), (high, high))
            else:
                self.assertEqual(len(all_passings(pair, (0, 0), (high, high))), counts[high])
        self.assertTrue(any(many > 2000 for many in counts.values()))
        loose = (8, ((0, 1), (2, 3), (4, 5), (6, 7)))
        # Three passings of each beam's ends at one level.
        self.assertEqual(len(all_passings(loose, (0,) * 8, (2,) * 8)), 81)
        self.refused(errors.TooMany, all_passings, loose, (0,) * 8, (4,) * 8)
        self.refused(errors.TooMany, all_passings, row(2), (0, 0), (240, 240))
        three = (6, ((0, 1), (2, 3), (4, 5)))
        one, other = (-2, -3, -2, -3, 0, 0), (2, 3, 1, 2, -2, -1)
        self.assertEqual(how_many_passings(three, one, other), 2000)
        self.assertEqual(len(all_passings(three, one, other)), 2000)
        beyond, one, other = (6, KITE[1] + ((4, 5),)), (-2, -1, -2, -1, -1, -2), (2, 2, 1, 2, 3, 3)
        self.assertEqual(how_many_passings(beyond, one, other), 2001)
        self.refused(errors.TooMany, all_passings, beyond, one, other)

    def test_greatest_counts_of_long_ways(self):
        # Two jacks to one height: each level lets one pass, the one that did not at the level below.
        self.assertEqual(how_many_greatest(row(2), (0, 0), (240, 240)), 2)
        self.assertEqual(most_passed(row(2), (0, 0), (240, 240)), 239)
        self.assertEqual(how_many_greatest(ring(3), (0,) * 3, (160,) * 3), 3 * 2 ** 158)
        self.assertEqual(how_many_greatest(full(8), (0,) * 8, (60,) * 8), 8 * 7 ** 58)
        many = [1, 3]
        for _ in range(238):
            many.append(2 * many[-1] + many[-2])
        self.assertEqual(how_many_passings(row(2), (0, 0), (240, 240)), many[239])
