"""Promise [13]: couples, ways on, covers, odd rounds: why no passing is greater; and of [3] TooMany for them."""

from evenlifts import couples, errors
from evenlifts.couples import (
    all_couples, couples_by, cover, free_pairs, greatest_couples, is_couples, is_cover, is_led_on, is_odd_round, led_on,
    odd_round, papers_agree, short_by,
)
from evenlifts.passings import greatest_passing
from making import (
    Case, FLOOR, Maker, NO_THINGS, WIDE, WIDE_TWO, are_close, full, listed, pairs_of, ring, row, some_frames, stands,
)
from slowly import all_sets, lifted, made, odd_rounds, slow_passings

EXAMPLES = r'''
>>> row, low, high = (4, ((0, 1), (1, 2), (2, 3))), (0, 0, 0, 0), (2, 2, 2, 2)
>>> all_couples(row, low, high)
(((0, 1), (1, 1)), ((1, 1), (2, 1)), ((2, 1), (3, 1)))
>>> middle, way = (((1, 1), (2, 1)),), ((0, 1), (1, 1), (2, 1), (3, 1))
>>> is_couples(row, low, high, middle), is_couples(row, low, high, (((2, 1), (1, 1)),)), free_pairs(row, low, high, middle)
(True, False, ((0, 1), (3, 1)))
>>> [is_led_on(row, low, high, middle, own) for own in (way, way[::-1], way[1:3])], couples_by(row, low, high, middle, way)
([True, True, False], (((0, 1), (1, 1)), ((2, 1), (3, 1))))
>>> greatest_couples(row, low, high), short_by(row, low, high, middle), papers_agree(row, low, high, greatest_couples(row, low, high), ((0, 1), (2, 1)))
((((0, 1), (1, 1)), ((2, 1), (3, 1))), 1, True)
>>> [is_cover(row, low, high, own) for own in (way[1:3], (way[0], way[3]))], len(cover(row, low, high))
([True, False], 2)
>>> hoop = (3, ((0, 1), (0, 2), (1, 2)))
>>> short_by(hoop, (0, 0, 0), (2, 2, 2), (((0, 1), (1, 1)),)), is_odd_round(hoop, (0, 0, 0), (2, 2, 2), ((0, 1), (1, 1), (2, 1), (0, 1)))
(1, True)
>>> led_on(row, low, high, (((0, 1), (1, 1)), ((2, 1), (3, 1))))
raises CanNot()
>>> greatest_couples(hoop, (0, 0, 0), (2, 2, 2))
raises CanNot()
'''

ROW, LOW, HIGH = row(4), (0, 0, 0, 0), (2, 2, 2, 2)
FAR = (1000, 1000, 1000, 1000)
MIDDLE = (((1, 1), (2, 1)),)
WAY = ((0, 1), (1, 1), (2, 1), (3, 1))
FULL = (((0, 1), (1, 1)), ((2, 1), (3, 1)))
HOOP, THREE, TWO = ring(3), (0, 0, 0), (2, 2, 2)

# What are no couples of ROW from LOW to HIGH.
NO_COUPLES = (
    None, 0, "a", (0, 1), ((0, 1), (1, 1)), (((0, 1), (1, 1), (2, 1)),), (((0, 1),),), (((1, 1), (0, 1)),),
    (((0, 1), (2, 1)),), (((0, 1), (0, 1)),), (((0, 1), (0, 2)),), (((0, 0), (1, 0)),), (((0, 1), (4, 1)),),
    (((-1, 1), (0, 1)),), (((0, 1), (1, 1)), ((1, 1), (2, 1))), FULL[::-1], FULL[:1] * 2, (((0, True), (1, 1)),),
    (((0, 1), None),), (None,), FULL + (None,), (((False, 1), (1, 1)),), (((0, 1), (1, "1")),), (((0, 1, 1), (1, 1)),),
)


def slow_couples(frame, one, other):
    pairs = pairs_of(one, other)
    return [(near, far) for near in pairs for far in pairs if near < far and are_close(frame, near, far)]


def some_couples(maker, frame, one, other, part=2):
    """Couples that can stand side by side, taken as they come."""
    used, found = set(), []
    for near, far in maker.mixed(slow_couples(frame, one, other)):
        if near not in used and far not in used and maker.below(part):
            used |= {near, far}
            found.append((near, far))
    return tuple(sorted(found))


def most_side_by_side(rows):
    """How many couples can stand side by side, by going through all."""
    if not rows:
        return 0
    near, far = rows[0]
    with_it = [own for own in rows[1:] if near not in own and far not in own]
    return max(1 + most_side_by_side(with_it), most_side_by_side(rows[1:]))


def slow_ways_on(frame, one, other, told):
    """All ways on, by going on from each free pair."""
    pairs = pairs_of(one, other)
    partner = dict(told)
    partner.update({far: near for near, far in told})
    found, ways = [], [(pair,) for pair in pairs if pair not in partner]
    while ways:
        way = ways.pop()
        for far in pairs:
            if far in way or not are_close(frame, way[-1], far):
                continue
            if far not in partner:
                found.append(way + (far,))
            elif partner[far] not in way:
                ways.append(way + (far, partner[far]))
    return found


class Couples(Case):

    def test_examples(self):
        self.examples(EXAMPLES, {**vars(couples), **vars(errors)})

    def test_all_couples(self):
        for frame, one, other in made(81, 4, 0, 20):
            told = self.tell(all_couples, frame, one, other)
            self.assertEqual(told, tuple(slow_couples(frame, one, other)))
            self.assertEqual(told, all_couples(frame, other, one))
            for pair in told:
                self.assertIs(is_couples(frame, one, other, (pair,)), True)
            for far, near in told[:5]:
                self.assertIs(is_couples(frame, one, other, ((near, far),)), False)

    def test_couples_that_are_taken_as_they_come(self):
        maker = Maker(82)
        for frame, one, other in made(83, 3, 0, 16):
            told = some_couples(maker, frame, one, other)
            self.assertIs(self.tell(is_couples, frame, one, other, told), True)
            in_them = [pair for own in told for pair in own]
            free = self.tell(free_pairs, frame, one, other, told)
            self.assertEqual(free, tuple(pair for pair in pairs_of(one, other) if pair not in in_them))
            rows = slow_couples(frame, one, other)
            for more in rows[: 6]:
                both = tuple(sorted(told + (more,)))
                fits = more[0] not in in_them and more[1] not in in_them
                self.assertIs(is_couples(frame, one, other, both), fits)

    def test_ways_on(self):
        maker = Maker(84)
        for frame, one, other in made(85, 3, 2, 10):
            told = some_couples(maker, frame, one, other, 3)
            ways = slow_ways_on(frame, one, other, told)
            rows = slow_couples(frame, one, other)
            # Couples are as many as can be exactly if they have no way on.
            self.assertEqual(ways == [], len(told) == most_side_by_side(rows))
            if odd_rounds(frame, one, other) or not ways:
                self.refused(errors.CanNot, led_on, frame, one, other, told)
            else:
                self.assertIn(self.tell(led_on, frame, one, other, told), ways)
            for at, way in enumerate(ways[:12]):
                ask = self.tell if at < 2 else (lambda function, *values: function(*values))
                self.assertIs(ask(is_led_on, frame, one, other, told, way), True)
                self.assertIs(ask(is_led_on, frame, one, other, told, way[::-1]), True)
                more = ask(couples_by, frame, one, other, told, way)
                self.assertEqual(len(more), len(told) + 1)
                self.assertIs(is_couples(frame, one, other, more), True)
                self.assertTrue({(min(two), max(two)) for two in zip(way[::2], way[1::2])} <= set(more))
                left = [own for own in told if own[0] not in way]
                self.assertTrue(set(left) <= set(more))
                for wrong in (way[1:], way[:-1], way + way[:1], way[1:-1], way + way, listed(way)):
                    self.assertIs(is_led_on(frame, one, other, told, wrong), False)
            self.check_no_ways(frame, one, other, told, ways)

    def check_no_ways(self, frame, one, other, told, ways):
        """Of all rows of pairs, each beside the next one, and of all short tuples just those are ways on that are."""
        pairs = pairs_of(one, other)
        if len(pairs) > 8:
            return
        rows = [(pair,) for pair in pairs]
        for row_told in rows:
            if len(row_told) < 6:
                rows += [row_told + (far,) for far in pairs if far not in row_told and are_close(frame, row_told[-1], far)]
        for row_told in rows[:: len(rows) // 400 + 1]:
            self.assertIs(is_led_on(frame, one, other, told, row_told), row_told in ways, row_told)
        if len(pairs) > 5:
            return
        for rows in all_sets(pairs, 4):
            for turn in (rows, rows[::-1], rows[1:] + rows[:1]):
                self.assertIs(is_led_on(frame, one, other, told, turn), turn in ways, turn)

    def test_greatest_couples_and_covers(self):
        for frame, one, other in made(86, 4, 0, 13):
            pairs, rows = pairs_of(one, other), slow_couples(frame, one, other)
            most = max(len(own) for own in slow_passings(frame, one, other))
            greatest = most_side_by_side(rows)
            passing = greatest_passing(frame, one, other)
            if odd_rounds(frame, one, other):
                self.refused(errors.CanNot, greatest_couples, frame, one, other)
            else:
                told = self.tell(greatest_couples, frame, one, other)
                self.assertIs(is_couples(frame, one, other, told), True)
                self.assertEqual(len(told), greatest)
                # These couples show that no passing is greater.
                self.assertEqual(len(told) + most, len(pairs))
                self.assertEqual(self.tell(short_by, frame, one, other, told), 0)
                self.assertIs(self.tell(papers_agree, frame, one, other, told, passing), True)
                self.refused(errors.CanNot, led_on, frame, one, other, told)
            self.assertLessEqual(greatest + most, len(pairs))
            told = self.tell(cover, frame, one, other)
            self.assertEqual(len(told), len(pairs) - most)
            self.assertEqual(told, tuple(sorted(set(told))))
            self.assertTrue(set(told) <= set(pairs))
            self.assertTrue(all(near in told or far in told for near, far in rows))
            self.assertIs(is_cover(frame, one, other, told), True)

    def test_covers_are_all_but_passings(self):
        for frame, one, other in made(87, 2, 0, 8):
            pairs = pairs_of(one, other)
            known = slow_passings(frame, one, other)
            for lot in all_sets(pairs, len(pairs)):
                left = tuple(pair for pair in pairs if pair not in lot)
                self.assertIs(is_cover(frame, one, other, lot), left in known)

    def test_short_by_and_papers(self):
        maker = Maker(88)
        for frame, one, other in made(89, 3, 0, 12):
            pairs, known = pairs_of(one, other), slow_passings(frame, one, other)
            most = max(len(own) for own in known)
            told = some_couples(maker, frame, one, other, 3)
            self.assertEqual(self.tell(short_by, frame, one, other, told), len(pairs) - most - len(told))
            self.assertGreaterEqual(short_by(frame, one, other, told), 0)
            for passing in known[:: len(known) // 6 + 1]:
                agree = len(told) + len(passing) == len(pairs)
                self.assertLessEqual(len(told) + len(passing), len(pairs))
                self.assertIs(self.tell(papers_agree, frame, one, other, told, passing), agree)

    def test_odd_rounds(self):
        seen = 0
        for frame, one, other in list(made(90, 3, 0, 9)) + list(lifted(92)):
            known = odd_rounds(frame, one, other)
            if known:
                seen += 1
                self.assertIn(self.tell(odd_round, frame, one, other), known)
            else:
                self.refused(errors.CanNot, odd_round, frame, one, other)
            for at, turn in enumerate(known[:20]):
                ask = self.tell if at < 1 else (lambda function, *values: function(*values))
                self.assertIs(ask(is_odd_round, frame, one, other, turn), True)
                for wrong in (turn[1:], turn[:-1], turn + turn[1:], turn[::2], listed(turn)):
                    self.assertIs(is_odd_round(frame, one, other, wrong), False)
            for turn in all_sets(pairs_of(one, other), 3):
                closed = turn + turn[:1]
                self.assertIs(is_odd_round(frame, one, other, closed), closed in known)
                self.assertIs(is_odd_round(frame, one, other, turn), False)
        self.assertGreater(seen, 12)

    def test_frames_with_odd_rings_without_odd_rounds(self):
        # Heights of a ring of three that differ by two at two jacks alone: no odd round, whatever the frame.
        one, other = (0, 0, 1), (2, 2, 1)
        self.refused(errors.CanNot, odd_round, HOOP, one, other)
        self.assertEqual(greatest_couples(HOOP, one, other), (((0, 1), (1, 1)),))
        self.assertEqual(led_on(HOOP, one, other, ()), ((0, 1), (1, 1)))
        self.assertEqual(len(cover(HOOP, one, other)), 1)
        self.assertIs(is_odd_round(HOOP, THREE, TWO, ((0, 1), (1, 1), (2, 1), (0, 1))), True)
        self.assertIs(is_led_on(HOOP, THREE, TWO, (), ((0, 1), (1, 1))), True)
        self.assertEqual(couples_by(HOOP, THREE, TWO, (), ((2, 1), (1, 1))), (((1, 1), (2, 1)),))
        self.refused(errors.CanNot, led_on, HOOP, THREE, TWO, ())
        # A round of five: a ring of five, all at one level.
        turn = tuple((jack, 1) for jack in (0, 1, 2, 3, 4, 0))
        self.assertIs(is_odd_round(ring(5), (0,) * 5, (2,) * 5, turn), True)
        self.assertIs(is_odd_round(ring(4), (0,) * 4, (2,) * 4, turn[:4] + turn[:1]), False)
        # A way there and back alone is none.
        self.assertIs(is_odd_round(ROW, LOW, HIGH, ((0, 1), (1, 1), (0, 1))), False)

    def test_things_that_are_no_couples(self):
        wrong = NO_THINGS + NO_COUPLES + (list(FULL), listed(FULL))
        self.none_of(lambda thing: is_couples(ROW, LOW, HIGH, thing), wrong)
        self.assertIs(is_couples(ROW, LOW, HIGH, ()), True)
        self.assertIs(is_couples(ROW, LOW, HIGH, FULL), True)
        self.assertIs(is_couples(ROW, LOW, LOW, ()), True)

    def test_things_that_are_no_ways_on(self):
        wrong = NO_THINGS + (
            (), WAY[:2], WAY[1:3], WAY[:3], list(WAY), listed(WAY), WAY + WAY, (WAY[0], WAY[1], WAY[1], WAY[3]),
            WAY[:1] * 2, ((0, 1), (1, 1), (2, 1), (3, 2)), ((0, True),) + WAY[1:], ((False, 1),) + WAY[1:],
            WAY[:2] + (None, None), WAY[:3] + ((3, 1, 0),), ((0, 1), (2, 1), (1, 1), (3, 1)), (WAY[0], WAY[3]), (WAY,),
        )
        self.none_of(lambda thing: is_led_on(ROW, LOW, HIGH, MIDDLE, thing), wrong)
        self.none_of(lambda thing: is_led_on(ROW, LOW, HIGH, FULL, thing), wrong + (WAY, WAY[:2]))
        self.assertIs(is_led_on(ROW, LOW, HIGH, MIDDLE, WAY), True)
        # All free: no two in the middle are one of couples.
        self.assertIs(is_led_on(ROW, LOW, HIGH, (), WAY), False)
        long, high = tuple((jack, 1) for jack in range(8)), (2,) * 8
        told = tuple(zip(long[1:7:2], long[2:7:2]))
        self.assertIs(is_led_on(row(8), (0,) * 8, high, told, long), True)
        for at in range(3):
            self.assertIs(is_led_on(row(8), (0,) * 8, high, told[:at] + told[at + 1:], long), False)

    def test_things_that_are_no_covers(self):
        wrong = [thing for thing in NO_THINGS if thing != ()] + [
            (), WAY[:1], (WAY[0], WAY[3]), WAY[1:3][::-1], list(WAY[1:3]), listed(WAY[1:3]), WAY + ((3, 2),),
            ((0, 0),) + WAY, ((1, 1), (1, 1), (2, 1)), ((True, 1), (2, 1)), ((1, True), (2, 1)), WAY + (None,),
            ((-3, 1), (2, 1)), ((1, 1), (2, 1), (4, 1)), ((1, 1, 0), (2, 1)),
        ]
        self.none_of(lambda thing: is_cover(ROW, LOW, HIGH, thing), wrong)
        self.assertIs(is_cover(ROW, LOW, HIGH, WAY), True)
        self.assertIs(is_cover(ROW, LOW, LOW, ()), True)
        self.none_of(lambda thing: is_cover(ROW, LOW, LOW, thing), [own for own in NO_THINGS if own != ()])

    def test_things_that_are_no_odd_rounds(self):
        turn = ((0, 1), (1, 1), (2, 1), (0, 1))
        wrong = NO_THINGS + (
            (), turn[:3], turn[:1], turn[:2], list(turn), listed(turn), turn + turn[1:], turn[1:],
            ((0, True),) + turn[1:], ((False, 1),) + turn[1:], turn[:3] + ((0, True),), turn[:3] + ((False, 1),),
            ((0, 1), (1, 1), (2, 2), (0, 1)), ((0, 1), (1, 1), (3, 1), (0, 1)), ((0, 1), (0, 1)), (turn,),
            ((0, 1), (1, 1), (0, 1)), ((-3, 1), (1, 1), (2, 1), (-3, 1)), turn[:3] + (None,),
        )
        self.none_of(lambda thing: is_odd_round(HOOP, THREE, TWO, thing), wrong)
        self.assertIs(is_odd_round(HOOP, THREE, TWO, turn), True)

    def test_unfit_stands(self):
        for function in (all_couples, greatest_couples, cover, odd_round):
            self.unfit_stands(function)
        for function in (is_couples, is_cover, is_odd_round, free_pairs, led_on, short_by):
            self.unfit_stands(function, ())
        for function in (is_led_on, couples_by, papers_agree):
            self.unfit_stands(function, (), ())

    def test_unfit_couples(self):
        for wrong in NO_COUPLES:
            for other in (HIGH, FAR):
                if other == FAR and wrong == (((0, 1), (0, 2)),):
                    continue
                for function in (free_pairs, led_on, short_by):
                    self.refused(errors.Unfit, function, ROW, LOW, other, wrong)
                self.refused(errors.Unfit, is_led_on, ROW, LOW, other, wrong, WAY)
                self.refused(errors.Unfit, is_led_on, ROW, LOW, other, wrong, None)
                self.refused(errors.Unfit, couples_by, ROW, LOW, other, wrong, WAY)
                self.refused(errors.Unfit, papers_agree, ROW, LOW, other, wrong, ())
        nine = ring(9)
        self.refused(errors.Unfit, short_by, nine, (0,) * 9, (2,) * 9, (((0, 1), (2, 1)),))

    def test_unfit_ways_and_passings(self):
        no_ways = (None, 0, (), WAY[:2], WAY[1:3], WAY[:3], WAY + WAY, ((0, 1), (2, 1), (1, 1), (3, 1)), (WAY,), "ab")
        for wrong in no_ways:
            self.refused(errors.Unfit, couples_by, ROW, LOW, HIGH, MIDDLE, wrong)
            self.refused(errors.Unfit, couples_by, ROW, LOW, FAR, MIDDLE, wrong)
        for wrong in (None, 0, WAY[:2], ((0, 1), (0, 1)), ((2, 1), (0, 1)), ((0, 0),), (0, 1), ((0, True),), "a"):
            self.refused(errors.Unfit, papers_agree, ROW, LOW, HIGH, MIDDLE, wrong)
            self.refused(errors.Unfit, papers_agree, ROW, LOW, FAR, MIDDLE, wrong)

    def test_too_many_levels(self):
        for function in (all_couples, greatest_couples, cover):
            self.too_many_levels(function, lambda *told: (), False)
        self.too_many_levels(odd_round, lambda *told: (), False)
        for function in (is_couples, is_cover, is_odd_round):
            self.too_many_levels(function, lambda *told: (None,))
            self.too_many_levels(function, lambda *told: ((),))
        for function in (free_pairs, short_by):
            self.too_many_levels(function, lambda *told: ((((0, 1), (1, 1)),),))
        self.too_many_levels(led_on, lambda *told: ((),), False)
        self.too_many_levels(is_led_on, lambda *told: ((), None))
        self.too_many_levels(couples_by, lambda *told: ((), ((0, 1), (1, 1))))
        self.too_many_levels(papers_agree, lambda *told: ((), ()))
        pair, low, high = row(2), (0, 0), (240, 240)
        told = greatest_couples(pair, low, high)
        self.assertEqual(len(told), 239)
        self.assertIs(papers_agree(pair, low, high, told, greatest_passing(pair, low, high)), True)
        self.assertEqual((len(cover(pair, low, high)), short_by(pair, low, high, told)), (239, 0))
        self.assertIs(is_cover(pair, low, high, cover(pair, low, high)), True)
        self.refused(errors.CanNot, odd_round, pair, low, high)
        self.assertEqual(len(led_on(pair, low, high, told[1:])), 2)
        self.assertEqual(len(all_couples(pair, low, high)), 239 + 2 * 238)

    def test_too_many_jacks(self):
        for frame in (ring(9), WIDE, ring(11)):
            low, high = (0,) * frame[0], (3,) * frame[0]
            self.refused(errors.TooMany, cover, frame, low, high)
            self.refused(errors.TooMany, short_by, frame, low, high, ())
            self.refused(errors.TooMany, cover, frame, low, low)
            rows = slow_couples(frame, low, high)
            self.assertEqual(all_couples(frame, low, high), tuple(rows))
            told = some_couples(Maker(91), frame, low, high)
            self.assertIs(is_couples(frame, low, high, told), True)
            self.assertEqual(len(free_pairs(frame, low, high, told)), 2 * frame[0] - 2 * len(told))
            self.refused(errors.CanNot, greatest_couples, frame, low, high)
            self.refused(errors.CanNot, led_on, frame, low, high, ())
            self.assertIs(is_led_on(frame, low, high, (), rows[0]), True)
            self.assertEqual(couples_by(frame, low, high, (), rows[0]), (rows[0],))
            turn = odd_round(frame, low, high)
            self.assertIs(is_odd_round(frame, low, high, turn), True)
            self.assertIs(is_cover(frame, low, high, tuple(pairs_of(low, high))), True)
            self.assertIs(papers_agree(frame, low, high, told, ((0, 1),)), len(told) + 1 == 2 * frame[0])
            # Few jacks alone move: no odd round.
            here = (0,) * frame[0]
            there = (2, 1) + (1,) * (frame[0] - 2)
            self.assertTrue(stands(frame, there))
            self.assertEqual(greatest_couples(frame, here, there), ())
        for frame in (full(8), WIDE_TWO, FLOOR, row(12)):
            low, high = (0,) * frame[0], (3,) * frame[0]
            self.assertEqual(short_by(frame, low, high, ()), len(cover(frame, low, high)))

    def test_bounds(self):
        for frame in (WIDE_TWO, FLOOR, ring(12)):
            low, high = (10 ** 6,) * 12, (10 ** 6 - 40,) * 12
            told = greatest_couples(frame, low, high)
            self.assertEqual(len(told), 234)
            self.assertEqual(short_by(frame, low, high, told), 0)
            way = led_on(frame, low, high, told[:100] + told[101:])
            more = couples_by(frame, low, high, told[:100] + told[101:], way)
            self.assertEqual(len(more), 234)
            self.assertIs(is_led_on(frame, low, high, told[:100] + told[101:], way), True)
            self.assertIs(is_couples(frame, low, high, more), True)
            self.refused(errors.CanNot, led_on, frame, low, high, more)
        low, high = (0,) * 12, (40,) * 12
        turn = odd_round(WIDE, low, high)
        self.assertIs(is_odd_round(WIDE, low, high, turn), True)
        self.assertEqual(len(all_couples(WIDE, low, high)), 24 * 39 + 12 * 38)
        eight = full(8)
        low, high = (0,) * 8, (60,) * 8
        self.assertEqual(len(cover(eight, low, high)), 7 * 59)
