"""Promise [21]: loose sets, folds, tables and powers, stretches, the fewest deeds however high; its TooMany, NoStand."""

import itertools

from evenlifts import errors, high
from evenlifts.fewest import fewest
from evenlifts.high import (
    added, fold, high_fewest, high_passing, loose_lots, passing_at, powered, settled, stretches, table_of,
)
from evenlifts.levels import level_fewest, settled_at, two_more
from evenlifts.passings import most_passed
from making import (
    Case, HOUSE, KITE, Maker, full, pairs_of, ring, row, small_frames, some_frames, star,
)
from slowly import all_sets, made, slow_passings

EXAMPLES = r'''
>>> row, twin = (3, ((0, 1), (1, 2))), (6, ((0, 1), (0, 2), (0, 3), (1, 4), (1, 5)))
>>> row = (4, ((0, 1), (1, 2), (2, 3)))
>>> kite, pair = (4, ((0, 1), (0, 2), (1, 2), (2, 3))), (2, ((0, 1),))
>>> loose_lots(kite, (0, 2, 3)), fold(kite, (0, 1, 2, 3)), fold(kite, ())
([(), (0,), (0, 3), (2,), (3,)], 3, 0)
>>> table = table_of(pair, (0, 1))
>>> table, added(table, table), powered(table, 3)
(((0, 1, 1), (0, None, 1), (0, 1, None)), ((1, 2, 2), (1, 2, 1), (1, 1, 2)), ((2, 3, 3), (2, 2, 3), (2, 3, 2)))
>>> powered(table, 10 ** 30)[0]
(999999999999999999999999999999, 1000000000000000000000000000000, 1000000000000000000000000000000)
>>> [passing_at(twin, (0, 1, 2, 3, 4, 5), own) for own in range(6)], settled(twin, (0, 1, 2, 3, 4, 5)), settled(kite, (3,))
([0, 4, 6, 9, 12, 15], 2, 0)
>>> passing_at(kite, (0, 1, 2, 3), 10 ** 30)
1500000000000000000000000000000
>>> flat, up, far = (0, 0, 0, 0), (5, 5, 4, 3), (10 ** 30, 10 ** 30, 10 ** 30 - 1, 10 ** 30 - 1)
>>> stretches(kite, flat, up), high_passing(kite, flat, up), high_fewest(kite, flat, up), stretches(kite, up, up)
([(1, 3, (0, 1, 2, 3)), (3, 4, (0, 1, 2)), (4, 5, (0, 1))], 5, 12, [])
>>> high_fewest(kite, flat, far), stretches(row, (0, 1, 2, 1), (3, 3, 2, 1))
(2500000000000000000000000000000, [(1, 2, (0,)), (2, 3, (0, 1))])
>>> stretches(kite, flat, (2, 0, 0, 0))
raises NoStand(beam=(0, 1))
'''

TWIN = (6, ((0, 1), (0, 2), (0, 3), (1, 4), (1, 5)))
THREE_PAIRS = (6, ((0, 1), (2, 3), (4, 5)))
FRAMES = [frame for frame in some_frames() if frame[0] <= 6] + [TWIN, star(6), full(6), THREE_PAIRS]
HUGE = 10 ** 31


def is_loose(frame, jacks):
    return not any(pair in frame[1] for pair in itertools.combinations(jacks, 2))


def slow_loose(frame, lot):
    return sorted(own for own in all_sets(lot, len(lot)) if is_loose(frame, own))


def lots_of(maker, frame, many):
    """Lots of jacks, all of them and none among these."""
    yield tuple(range(frame[0]))
    yield ()
    for _ in range(many):
        yield tuple(jack for jack in range(frame[0]) if maker.below(3))


def slow_passing_at(frame, lot, number):
    """How many pairs pass at most, level by level, by all loose sets at each."""
    best = {(): 0}
    for _ in range(number):
        best = {own: len(own) + max(best[far] for far in best if not set(own) & set(far))
                for own in slow_loose(frame, lot)}
    return max(best.values())


def slow_added(table, more):
    """The tables added, entry by entry."""
    many = len(table)
    rows = []
    for here in range(many):
        entries = []
        for there in range(many):
            sums = [table[here][by] + more[by][there] for by in range(many)
                    if table[here][by] is not None and more[by][there] is not None]
            entries.append(max(sums) if sums else None)
        rows.append(tuple(entries))
    return tuple(rows)


def some_table(maker, many, gaps):
    return tuple(tuple(
        None if maker.below(10) < gaps else maker.among(-9, 30) for _ in range(many)) for _ in range(many))


def own_stretches(one, other):
    """The stretches, from the jacks of each level by itself."""
    found = []
    for level in range(min(one + other) - 1, max(one + other) + 2):
        jacks = tuple(jack for jack, pair in enumerate(zip(one, other)) if min(pair) < level < max(pair))
        if jacks and found and found[-1][1:] == (level, jacks):
            found[-1] = (found[-1][0], level + 1, jacks)
        elif jacks:
            found.append((level, level + 1, jacks))
    return found


class High(Case):

    def test_examples(self):
        self.examples(EXAMPLES, {**vars(high), **vars(errors)})

    def test_loose_sets_and_folds(self):
        maker = Maker(31)
        for frame in list(small_frames()) + FRAMES:
            for lot in lots_of(maker, frame, 2):
                known = slow_loose(frame, lot)
                self.assertEqual(self.tell(loose_lots, frame, lot), known)
                most = max(len(own) + len(far) for own in known for far in known if not set(own) & set(far))
                self.assertEqual(self.tell(fold, frame, lot), most)
                # The most jacks of the lot that are two-coloured by themselves.
                two = max(len(jacks) for jacks in all_sets(lot, len(lot)) if any(
                    is_loose(frame, part) and is_loose(frame, [jack for jack in jacks if jack not in part])
                    for part in all_sets(jacks, len(jacks))))
                self.assertEqual(most, two)

    def test_tables(self):
        maker = Maker(32)
        for frame in FRAMES:
            for lot in lots_of(maker, frame, 2):
                known = slow_loose(frame, lot)
                wanted = tuple(tuple(None if set(own) & set(far) else len(far) for far in known) for own in known)
                self.assertEqual(table_of(frame, lot), wanted)
        self.tell(table_of, KITE, (0, 1, 3))
        self.assertEqual(table_of(KITE, ()), ((0,),))

    def test_added(self):
        maker = Maker(33)
        for many in (1, 2, 3, 5, 9):
            for gaps in (0, 2, 5, 9, 10):
                table, more = some_table(maker, many, gaps), some_table(maker, many, gaps)
                self.assertEqual(self.tell(added, table, more), slow_added(table, more))
        self.assertEqual(added(((None, None), (0, None)), ((1, 2), (3, 4))), ((None, None), (1, 2)))
        self.assertEqual(added(((-5, HUGE), (0, None)), ((1, 2), (3, HUGE))), ((HUGE + 3, 2 * HUGE), (1, 2)))

    def test_powers(self):
        maker = Maker(34)
        for many in (1, 2, 4, 9):
            for gaps in (0, 3, 8):
                table = some_table(maker, many, gaps)
                wanted = table
                for number in range(1, 10):
                    self.assertEqual(powered(table, number), wanted)
                    wanted = slow_added(wanted, table)
                self.tell(powered, table, 6)
                # So many and so many more are all of them.
                self.assertEqual(powered(table, 10 ** 20 + 7), slow_added(powered(table, 10 ** 20), powered(table, 7)))
        self.assertEqual(powered(((3,),), HUGE), ((3 * HUGE,),))
        self.assertEqual(powered(((None, 1), (2, None)), HUGE), ((3 * HUGE // 2, None), (None, 3 * HUGE // 2)))

    def test_passing_at_each_number_of_levels(self):
        maker = Maker(35)
        for frame in list(small_frames()) + FRAMES:
            for lot in lots_of(maker, frame, 2):
                for number in (0, 1, 2, 3, 4, 7, 12):
                    self.assertEqual(passing_at(frame, lot, number), slow_passing_at(frame, lot, number))
                self.tell(passing_at, frame, lot, 5)
                self.assertEqual(passing_at(frame, lot, HUGE), HUGE // 2 * fold(frame, lot))

    def test_passing_at_beside_all_passings_and_tables(self):
        for frame in (row(2), row(3), ring(3), KITE, star(4)):
            every = tuple(range(frame[0]))
            for number in range(0, 4):
                if number * frame[0] <= 12:
                    ways = slow_passings(frame, (0,) * frame[0], (number + 1,) * frame[0])
                    self.assertEqual(passing_at(frame, every, number), max(len(own) for own in ways))
        for frame in (row(3), KITE, ring(5), (4, ((0, 1), (2, 3)))):
            for lot in lots_of(Maker(36), frame, 2):
                if len(slow_loose(frame, lot)) <= 9:
                    table = table_of(frame, lot)
                    for number in (1, 2, 5, 8, 10 ** 30 + 1):
                        self.assertEqual(passing_at(frame, lot, number), max(powered(table, number)[0]))

    def test_settled(self):
        maker, late = Maker(37), 0
        for frame in list(small_frames()) + FRAMES:
            for lot in lots_of(maker, frame, 3):
                steps = [passing_at(frame, lot, number + 2) - passing_at(frame, lot, number) for number in range(30)]
                self.assertTrue(all(step <= len(lot) for step in steps))
                told = fold(frame, lot)
                at = max([-1] + [number for number, step in enumerate(steps) if step != told]) + 1
                self.assertEqual(self.tell(settled, frame, lot), at)
                late += at > 0
                self.assertEqual(passing_at(frame, lot, HUGE + at + 2) - passing_at(frame, lot, HUGE + at), told)
        self.assertGreater(late, 1)

    def test_level_houses(self):
        for frame in FRAMES:
            every, n = tuple(range(frame[0])), frame[0]
            self.assertEqual(two_more(frame), 2 * n - fold(frame, every))
            self.assertEqual(settled_at(frame), settled(frame, every) + 1)
            for top in (1, 2, 5, 10 ** 30, HUGE):
                self.assertEqual(level_fewest(frame, top), n * top - passing_at(frame, every, top - 1))
                self.assertEqual(high_fewest(frame, (0,) * n, (top,) * n), level_fewest(frame, top))

    def test_stretches(self):
        for frame, one, other in made(38, 5, 0, 60, -4, 8, FRAMES):
            told = self.tell(stretches, frame, one, other)
            self.assertEqual(told, own_stretches(one, other))
            self.assertEqual(stretches(frame, other, one), told)
            self.assertLessEqual(len(told), 2 * frame[0])
            ends = set(one + other) | {height + 1 for height in one + other}
            self.assertTrue(all({first, behind} <= ends for first, behind, _ in told))
        self.assertEqual(stretches(THREE_PAIRS, (0,) * 6, (3, 3, 2, 2, -HUGE, -HUGE)),
                         [(1 - HUGE, 0, (4, 5)), (1, 2, (0, 1, 2, 3)), (2, 3, (0, 1))])
        self.assertEqual(stretches(row(2), (0, 0), (1, 1)), [])
        # A level at which none has a passable pair stands between.
        self.assertEqual(stretches((4, ((0, 1), (2, 3))), (0, 0, 3, 3), (3, 3, 6, 6)), [(1, 3, (0, 1)), (4, 6, (2, 3))])
        self.assertEqual(stretches((4, ((0, 1), (2, 3))), (0, 0, 2, 2), (3, 3, 6, 6)), [(1, 3, (0, 1)), (3, 6, (2, 3))])

    def test_most_passed_beside_all_passings(self):
        for frame, one, other in made(39, 4, 0, 14, -2, 4, FRAMES):
            most = max(len(own) for own in slow_passings(frame, one, other))
            self.assertEqual(self.tell(high_passing, frame, one, other), most)
            apart = sum(abs(here - there) for here, there in zip(one, other))
            self.assertEqual(self.tell(high_fewest, frame, one, other), apart - most)

    def test_fewest_beside_that_of_the_bounded(self):
        for frame, one, other in made(40, 12, 10, 480, -20, 30, FRAMES):
            self.assertEqual(high_passing(frame, one, other), most_passed(frame, one, other))
            self.assertEqual(high_fewest(frame, one, other), fewest(frame, one, other))
        for frame, one, other in made(41, 3, 0, 100, -5, 7, FRAMES):
            lifted = tuple(height + 60 for height in other)
            if len(pairs_of(one, lifted)) <= 450:
                self.assertEqual(high_fewest(frame, one, lifted), fewest(frame, one, lifted))

    def test_far_apart_parts_add_up(self):
        """What lies far off by itself passes by itself; however far apart its parts are lifted."""
        maker, parts = Maker(42), [row(2), row(3), ring(3), row(4), KITE, star(4)]
        for low in parts:
            for more in [own for own in parts if own[0] + low[0] <= 6]:
                frame = (low[0] + more[0], low[1] + tuple((one + low[0], far + low[0]) for one, far in more[1]))
                for by in (0, 1, 5, 10 ** 30):
                    one, other = maker.stand(low, 0, 3), maker.stand(low, 0, 3)
                    far, last = maker.stand(more, 0, 3), maker.stand(more, by, by + 3)
                    other, far = tuple(own + by + 2 for own in other), tuple(own + by // 2 for own in far)
                    self.assertEqual(
                        high_passing(frame, one + far, other + last),
                        high_passing(low, one, other) + high_passing(more, far, last))

    def test_two_levels_more_in_the_midst(self):
        """Each stretch settles: from some number of levels on two more let its fold more pass."""
        for frame, one, other in made(43, 3, 4, 60, 0, 9, [KITE, HOUSE, TWIN, ring(5), star(5), full(4), ring(6)]):
            every = tuple(range(frame[0]))
            for by in (30, 10 ** 29 + 1):
                near, far = (tuple(height + more for height in other) for more in (by, by + 2))
                self.assertEqual(high_passing(frame, one, far) - high_passing(frame, one, near), fold(frame, every))
                self.assertEqual(high_passing(frame, near, one), high_passing(frame, one, near))

    def test_no_stand(self):
        flat, torn, worse = (0, 0, 0, 0), (0, 0, 0, 9), (9, 0, 0, 0)
        for function in (stretches, high_passing, high_fewest):
            self.refused(errors.NoStand, function, KITE, torn, flat, beam=(2, 3))
            self.refused(errors.NoStand, function, KITE, flat, worse, beam=(0, 1))
            self.refused(errors.NoStand, function, KITE, torn, worse, beam=(2, 3))
            self.refused(errors.NoStand, function, KITE, worse, torn, beam=(0, 1))

    def test_too_many_jacks(self):
        for n in (7, 9, 12):
            for frame in (row(n), star(n), ring(n)):
                for function in (stretches, high_passing, high_fewest):
                    self.refused(errors.TooMany, function, frame, (0,) * n, (3,) * n)
                    self.refused(errors.TooMany, function, frame, (0,) * n, (0,) * n)
                    # Ahead of NoStand.
                    self.refused(errors.TooMany, function, frame, (0, 9) + (0,) * (n - 2), (3,) * n)
                for function, more in ((loose_lots, ()), (fold, ()), (table_of, ()), (settled, ()), (passing_at, (3,))):
                    self.refused(errors.TooMany, function, frame, (0, 1), *more)
                    self.refused(errors.TooMany, function, frame, (), *more)
        for frame in (row(6), star(6), ring(6), full(6)):
            for function, more in ((loose_lots, ()), (fold, ()), (table_of, ()), (settled, ()), (passing_at, (3,))):
                function(frame, (0, 1, 2, 3, 4, 5), *more)
            for function in (stretches, high_passing, high_fewest):
                function(frame, (0,) * 6, (3,) * 6)

    def test_at_the_bounds(self):
        for frame in FRAMES:
            n = frame[0]
            maker = Maker(44)
            one = tuple(height - HUGE for height in maker.stand(frame, 0, 5))
            other = tuple(height + HUGE for height in maker.stand(frame, -5, 0))
            told = stretches(frame, one, other)
            self.assertTrue(all(behind - first > 0 and jacks for first, behind, jacks in told))
            most = high_passing(frame, one, other)
            self.assertLess(abs(most - HUGE * fold(frame, tuple(range(n)))), 60)
            self.assertEqual(high_fewest(frame, one, other),
                             sum(abs(here - there) for here, there in zip(one, other)) - most)
        # No bound of 480 levels.
        self.assertEqual(high_fewest(row(2), (0, 0), (241, 241)), 242)
