"""What all tests share: things made in a fixed way, and the ways in which a function is called."""

import copy
import inspect
import itertools
import unittest

from evenlifts.errors import TooMany, Unfit


class Maker:
    """Numbers that look as if drawn, the same ones at each run."""

    def __init__(self, seed):
        self.state = seed * 2654435761 % 2 ** 64 + 1

    def below(self, bound):
        """A number from 0, below bound."""
        self.state = (self.state * 6364136223846793005 + 1442695040888963407) % 2 ** 64
        return (self.state >> 33) % bound

    def among(self, low, high):
        return low + self.below(high - low + 1)

    def one_of(self, rows):
        return rows[self.below(len(rows))]

    def mixed(self, rows):
        rows = list(rows)
        for at in range(len(rows) - 1, 0, -1):
            other = self.below(at + 1)
            rows[at], rows[other] = rows[other], rows[at]
        return rows

    def frame(self, n):
        """A frame of n jacks: as many beams as it takes for each jack to have one, and some more."""
        beams = set()
        for jack in range(n):
            far = self.one_of([own for own in range(n) if own != jack])
            if not any(jack in beam for beam in beams) or self.below(3) == 0:
                beams.add((min(jack, far), max(jack, far)))
        return (n, tuple(sorted(beams)))

    def stand(self, frame, low, high):
        """A stand with heights from low to high."""
        steps = lengths(frame)
        wished = [self.among(low, high) for _ in range(frame[0])]
        return tuple(
            min(wished[far] + steps[jack][far] for far in range(frame[0]) if steps[jack][far] is not None)
            for jack in range(frame[0])
        )

    def plan(self, frame, stand, many, low, high):
        """A plan of up to many deeds from stand on, heights from low to high."""
        plan = []
        for _ in range(many):
            deeds = [deed for deed in doable(frame, stand) if low <= deed[1] <= high]
            if not deeds:
                break
            deed = self.one_of(deeds)
            plan.append(deed)
            stand = put(stand, deed)
        return tuple(plan)


def lengths(frame):
    """For each two jacks the fewest beams between them, None if there is no way."""
    n, beams = frame
    far = [[0 if here == there else None for there in range(n)] for here in range(n)]
    for _ in range(n):
        for here in range(n):
            for low, high in beams:
                for near, next_one in ((low, high), (high, low)):
                    if far[here][near] is not None:
                        if far[here][next_one] is None or far[here][next_one] > far[here][near] + 1:
                            far[here][next_one] = far[here][near] + 1
    return far


def put(stand, deed):
    heights = list(stand)
    heights[deed[0]] = deed[1]
    return tuple(heights)


def stands(frame, heights):
    return all(abs(heights[low] - heights[high]) <= 1 for low, high in frame[1])


def doable(frame, stand):
    """All deeds that can be done at stand, by trying each height that could be."""
    return [
        (jack, height) for jack in range(frame[0]) for height in range(stand[jack] - 4, stand[jack] + 5)
        if height != stand[jack] and stands(frame, put(stand, (jack, height)))
    ]


def walk(frame, stand, plan):
    """The stands of a plan that can be done, None if it cannot."""
    found = [stand]
    for deed in plan:
        if found[-1][deed[0]] == deed[1] or not stands(frame, put(found[-1], deed)):
            return None
        found.append(put(found[-1], deed))
    return found


def pairs_of(one, other):
    """The list of all passable pairs."""
    return [
        (jack, level) for jack in range(len(one))
        for level in range(min(one[jack], other[jack]) + 1, max(one[jack], other[jack]))
    ]


def are_close(frame, near, far):
    """Whether two passable pairs are beside one another."""
    joined = (min(near[0], far[0]), max(near[0], far[0])) in frame[1]
    return (joined and near[1] == far[1]) or (near[0] == far[0] and abs(near[1] - far[1]) == 1)


def some_prices(maker, n, low, high, barred, most=6):
    """Prices with stops told from low to high, barred of ten of them forbidden."""
    found = []
    for _ in range(n):
        levels = [level for level in range(low, high + 1) if maker.below(2)]
        found.append((maker.among(1, most), tuple(
            (level, None if maker.below(10) < barred else maker.below(most + 1)) for level in levels
        )))
    return tuple(found)


def cost_of(prices, stop):
    """What a stop costs, None if it is forbidden."""
    even, told = prices[stop[0]]
    return dict(told).get(stop[1], even)


def row(n):
    return (n, tuple((jack, jack + 1) for jack in range(n - 1)))


def ring(n):
    return (n, tuple(sorted([(jack, jack + 1) for jack in range(n - 1)] + [(0, n - 1)])))


def star(n):
    return (n, tuple((0, jack) for jack in range(1, n)))


def full(n):
    return (n, tuple(itertools.combinations(range(n), 2)))


HOUSE = (5, ((0, 1), (0, 2), (1, 3), (2, 3), (3, 4)))
KITE = (4, ((0, 1), (0, 2), (1, 2), (2, 3)))
APART = (5, ((0, 3), (1, 2), (1, 4), (2, 4)))
FLOOR = (12, tuple(sorted(
    [(4 * across + down, 4 * across + down + 1) for across in range(3) for down in range(3)]
    + [(jack, jack + 4) for jack in range(8)]
)))
# 12 jacks and 24 beams: the bounds of the document; the first is not two-coloured.
WIDE = (12, tuple(sorted([tuple(sorted((jack, (jack + by) % 12))) for jack in range(12) for by in (1, 2)])))
WIDE_TWO = (12, tuple(sorted([tuple(sorted((jack, (jack + by) % 12))) for jack in range(12) for by in (1, 3)])))


def small_frames():
    """Each frame of two to four jacks."""
    for n in (2, 3, 4):
        pairs = list(itertools.combinations(range(n), 2))
        for many in range(1, len(pairs) + 1):
            for beams in itertools.combinations(pairs, many):
                if len({jack for beam in beams for jack in beam}) == n:
                    yield (n, beams)


def some_frames():
    """Frames of all kinds, up to eight jacks."""
    maker = Maker(5)
    named = [row(2), row(3), row(5), ring(3), ring(4), ring(5), ring(6), star(4), star(6), full(4), full(5)]
    made = [maker.frame(n) for n in (4, 5, 5, 6, 6, 7, 7, 8)]
    return named + [HOUSE, KITE, APART, (4, ((0, 2), (1, 3))), (6, ((0, 1), (2, 3), (4, 5)))] + made


def listed(value):
    """value with a list in the place of each tuple."""
    if isinstance(value, tuple):
        return [listed(part) for part in value]
    return value


def turned(value):
    """value with a list in the place of every other tuple, outermost ones stay."""
    if isinstance(value, tuple):
        return tuple(listed(part) if at % 2 else turned(part) for at, part in enumerate(value))
    return value


def nested(levels):
    value = ()
    for _ in range(levels):
        value = (value,)
    return value


# What is no frame, stand, deed, plan, pair, passing, colours, ring, whatever else is asked for.
# (() is not here: it is a plan, and a passing.)
NO_THINGS = (
    True, False, None, 0, 1, -3, "", "a", "01", "(0, 1)", [], [0, 1], [[0, 1]], [(0, 1)], [2, [[0, 1]]], (None,),
    (True,), ("a",), ((),), ((0,),), ((0, 1, 2),), ((True, False),), ((None, None),), (("a", "b"),), ([0, 1],),
    ((0, True),), ((False, 1),), ("01",), ((0, "1"),), (0, (0, 1)), ((0, 1), 0), ((0, 1), None), ((0, 1), (0, "a")),
    (((0, 1),),), nested(1), nested(2), nested(5), nested(12), [nested(11)], (None, ()), (2, None), ((), ()),
)


def is_made_of_tuples(value):
    """Whether there is no list in value, and no number that is a truth value but by itself."""
    if isinstance(value, tuple):
        return all(is_made_of_tuples(part) and not isinstance(part, bool) for part in value)
    return value is None or isinstance(value, (int, str))


# What is no frame, and what is no stand of a row of three.
NO_FRAMES = (None, 3, (), (3, ()), (3, ((0, 1),)), (3, ((0, 1), (0, 2), (1, 3))), (True, ((0, 1),)), "a")
NO_STANDS = (
    None, 0, (), (0, 0), (0, 0, 0, 0), (0, 0, 2), (0, 0, True), (0, 0, "0"), "000", (0, 0, None), ((0, 0, 0),),
)


class Case(unittest.TestCase):
    """A test that calls functions in all ways in which they may be called."""

    Unfit, TooMany = Unfit, TooMany

    def tell(self, function, *values):
        """What function tells; by position, by names and with lists for tuples it has to be the same."""
        names = list(inspect.signature(function).parameters)
        kept = copy.deepcopy(values)
        told = function(*values)
        self.assertEqual(values, kept)
        self.checked_result(told)
        again = function(**dict(zip(names, values)))
        self.assertEqual((told, type(told)), (again, type(again)))
        for change in (listed, turned):
            handed = [own if name == "thing" else change(own) for name, own in zip(names, values)]
            kept = copy.deepcopy(handed)
            more = function(*handed)
            self.assertEqual((told, type(told)), (more, type(more)))
            self.checked_result(more)
            self.assertEqual(handed, kept)
            self.assertEqual([type(own) for own in handed], [type(own) for own in kept])
        if isinstance(told, list):
            self.assertIsNot(told, again)
            told_now = list(told)
            again.append("changed by its owner")
            self.assertEqual(function(*values), told_now)
        return told

    def checked_result(self, told):
        rows = told if isinstance(told, list) else [told]
        for row_told in rows:
            self.assertTrue(is_made_of_tuples(row_told), row_told)

    def refused(self, error, function, *values, **attributes):
        """function raises just error, with these attributes; however it is called."""
        names = list(inspect.signature(function).parameters)
        handed = [listed(own) if name != "thing" else own for name, own in zip(names, values)]
        for call in (
            lambda: function(*values), lambda: function(**dict(zip(names, values))), lambda: function(*handed),
        ):
            kept = copy.deepcopy(values)
            with self.assertRaises(error) as caught:
                call()
            self.assertIs(type(caught.exception), error)
            self.assertEqual(vars(caught.exception), attributes)
            self.assertEqual(values, kept)
            for name in attributes:
                self.assertTrue(is_made_of_tuples(vars(caught.exception)[name]) or attributes[name] is True)

    def none_of(self, asked, things=NO_THINGS):
        """asked tells just False of each of things."""
        for thing in things:
            self.assertIs(asked(thing), False, thing)

    def examples(self, text, names):
        """Try each example: a line with >>>, and the line behind it with what is told or raised."""
        known = dict(names)
        lines = [line.strip() for line in text.strip().split("\n")]
        tried = 0
        for at, line in enumerate(lines):
            if not line.startswith(">>> "):
                continue
            behind = lines[at + 1] if at + 1 < len(lines) else ">>> "
            if behind.startswith("raises "):
                wanted = eval(behind[len("raises "):], known)
                with self.assertRaises(type(wanted)) as caught:
                    eval(line[4:], known)
                self.assertEqual(vars(caught.exception), vars(wanted), line)
            elif behind.startswith(">>> "):
                exec(line[4:], known)
            else:
                wanted = eval(behind, known)
                told = eval(line[4:], known)
                self.assertEqual((told, type(told)), (wanted, type(wanted)), line)
            tried += 1
        self.assertGreater(tried, 0)

    def unfit_stands(self, function, *more):
        """function raises Unfit for what is no frame, or no stand of it; ahead of TooMany."""
        path, low, high, far = row(3), (0, 0, 0), (3, 3, 3), (1000, 1000, 1000)
        for frame in NO_FRAMES:
            self.refused(self.Unfit, function, frame, low, high, *more)
            self.refused(self.Unfit, function, frame, low, far, *more)
        for heights in NO_STANDS:
            self.refused(self.Unfit, function, path, heights, high, *more)
            self.refused(self.Unfit, function, path, heights, far, *more)
            self.refused(self.Unfit, function, path, low, heights, *more)

    def too_many_levels(self, function, more, answers=True):
        """function raises TooMany for more than 480 levels, added up; not for 480 if answers.

        more(frame, one, other) tells the arguments that stand behind other.
        """
        pair, three = row(2), ring(3)
        for frame, other in ((pair, (240, 241)), (three, (161, 160, 160)), (pair, (10 ** 6, 10 ** 6))):
            low = (0,) * frame[0]
            self.refused(self.TooMany, function, frame, low, other, *more(frame, low, other))
            self.refused(self.TooMany, function, frame, other, low, *more(frame, other, low))
        for frame, other in ((pair, (240, 240)), (three, (160, 160, 160)), (row(4), (120,) * 4)):
            low = (0,) * frame[0]
            if answers:
                function(frame, low, other, *more(frame, low, other))
