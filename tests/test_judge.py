"""Promise [24]: claims, and one judge for all papers; the errors of each claim's point, TooMany of [3] among them."""

import itertools

from evenlifts import errors, judge
from evenlifts.couples import greatest_couples
from evenlifts.frames import is_two_coloured
from evenlifts.judge import is_claim, is_paper, is_so, not_so, paper, shows, words_so
from evenlifts.loads import least_loads
from making import (
    Case, FLOOR, HOUSE, KITE, Maker, NO_THINGS, WIDE, WIDE_TWO, are_close, cost_of, full, is_made_of_tuples, lengths,
    listed, pairs_of, ring, row, small_frames, some_frames, some_prices, stands, star, walk,
)
from slowly import cheapest_ways, made

EXAMPLES = r'''
>>> house, low, high, three = (2, ((0, 1),)), (0, 0), (2, 2), ((0, 1), (1, 2), (0, 2))
>>> few = ("fewest", house, low, high, 2)
>>> shows(("fewest", house, low, high, 3), three), shows(few, (((0, 1), (1, 1)),)), shows(few, three), shows(few, ())
(True, False, False, None)
>>> shows(("two", house), (0, 1)), shows(("two", (3, ((0, 1), (0, 2), (1, 2)))), (0, 1, 2, 0))
(True, False)
>>> goal_shut, both_shut, own_shut = ((1, ((2, None),)), (1, ())), ((1, ((1, None),)), (1, ((1, None),))), ((1, ((1, None),)), (1, ()))
>>> shows(("come", house, goal_shut, low, high), ("goal", (0, 2))), shows(("come", house, both_shut, low, high), ("beside", (0, 1), (1, 1)))
(False, False)
>>> shows(("come", house, own_shut, low, high), ((1, 1), (0, 2), (1, 2))), shows(("come", house, own_shut, low, high), three)
(True, None)
>>> dear = ((1, ()), (5, ()))
>>> shows(("cheap", house, dear, low, high, 7), three), shows(("cheap", house, dear, low, high, 6), (((0, 1), (1, 1), 5),))
(True, False)
>>> shows(("lot", house, low, high, (1,), 1), three), shows(("lot", house, low, high, (0, 1), 2), (((0, 1), (1, 1)),))
(True, False)
>>> shows(("fits", house, ((1, 3),)), (2, 3)), shows(("fits", house, ((0, 0), (1, 2))), (0, 1))
(True, False)
>>> shows(("move", house, low, ((1, 2),), 0), (1, 0)), shows(("move", house, low, ((1, 1),), 0), ((1, 1),))
(True, False)
>>> not_so((few, ("two", house))), words_so((few, ("two", house), ("fewest", house, low, high, 3))), is_claim(few), is_claim(few[:4])
((0,), ('two',), True, False)
>>> is_so(("lift", house))
raises NoWord(word='lift')
>>> is_so(("move", house, low, ((0, 0), (1, 2)), 0))
raises CanNot()
'''

PAIR, PATH, HOOP = row(2), row(3), ring(3)
FRAMES = [row(2), row(3), ring(3), star(4), KITE, (4, ((0, 1), (2, 3)))]
NINE_ODD = (9, tuple(sorted([(jack, jack + 1) for jack in range(8)] + [(0, 2)])))
EVEN = ((1, ()),) * 2
# One claim of each word, all of PAIR.
CLAIMS = (
    ("two", PAIR), ("come", PAIR, EVEN, (0, 0), (2, 2)), ("fewest", PAIR, (0, 0), (2, 2), 3),
    ("cheap", PAIR, EVEN, (0, 0), (2, 2), 3), ("lot", PAIR, (0, 0), (2, 2), (1,), 1), ("fits", PAIR, ((1, 3),)),
    ("move", PAIR, (0, 0), ((1, 2),), 0),
)
NOT_SO = (
    ("two", HOOP), ("come", PAIR, ((1, ((2, None),)), (1, ())), (0, 0), (2, 2)), ("fewest", PAIR, (0, 0), (2, 2), 2),
    ("cheap", PAIR, EVEN, (0, 0), (2, 2), 2), ("lot", PAIR, (0, 0), (2, 2), (1,), 0), ("fits", PAIR, ((0, 0), (1, 3))),
    ("move", PAIR, (0, 0), ((1, 1),), 0),
)
FUNCTIONS = (
    is_so, paper, lambda claim: is_paper(claim, None), lambda claim: shows(claim, ()), lambda claim: shows(claim, ((0, 1),)),
    lambda claim: not_so((claim,)), lambda claim: words_so((claim,)), lambda claim: not_so((CLAIMS[0], claim)),
    lambda claim: words_so([CLAIMS[0], claim]),
)


def is_let(prices, plan):
    return all(cost_of(prices, stop) is not None for stop in plan)


def is_led(frame, one, other, thing):
    """Whether thing is a plan from one to other."""
    deeds = isinstance(thing, tuple) and all(
        isinstance(deed, tuple) and len(deed) == 2 and all(type(own) is int for own in deed) and 0 <= deed[0] < frame[0]
        for deed in thing)
    passed = walk(frame, one, thing) if deeds else None
    return passed is not None and (other is None or passed[-1] == other)


def are_coupled(frame, one, other, thing, jacks):
    """Whether thing are couples of passable pairs of jacks."""
    pairs = [pair for pair in pairs_of(one, other) if pair[0] in jacks]
    known = [(near, far) for near, far in itertools.combinations(pairs, 2) if are_close(frame, near, far)]
    if not isinstance(thing, tuple) or not is_made_of_tuples(thing) or not all(own in known for own in thing):
        return False
    flat = [pair for own in thing for pair in own]
    return list(thing) == sorted(thing) and len(set(flat)) == len(flat)


def is_barred(frame, prices, one, other, thing):
    shut = [(jack, level) for jack, level in pairs_of(one, other) if cost_of(prices, (jack, level)) is None]
    goals = [(jack, other[jack]) for jack in range(frame[0])
             if other[jack] != one[jack] and cost_of(prices, (jack, other[jack])) is None]
    known = [("goal", stop) for stop in goals] + [
        ("beside", near, far) for near, far in itertools.combinations(shut, 2) if are_close(frame, near, far)]
    return is_made_of_tuples(thing) and thing in known


def are_loads(frame, prices, one, other, thing):
    pairs = pairs_of(one, other)
    shut = [pair for pair in pairs if cost_of(prices, pair) is None]
    own = [pair for pair in pairs if pair not in shut and not any(are_close(frame, pair, far) for far in shut)]
    if not isinstance(thing, tuple) or not all(
            isinstance(part, tuple) and len(part) == 3 and part[0] in own and part[1] in own and type(part[2]) is int
            and part[2] > 0 and (part[0] == part[1] or part[0] < part[1] and are_close(frame, part[0], part[1]))
            for part in thing) or not is_made_of_tuples(thing):
        return False
    ends = [part[:2] for part in thing]
    return ends == sorted(set(ends)) and all(
        sum(part[2] for part in thing if pair in part[:2]) >= cost_of(prices, pair) for pair in own)


def is_a_way(frame, thing):
    if not isinstance(thing, tuple) or not thing or not all(type(own) is int and 0 <= own < frame[0] for own in thing):
        return False
    return len(set(thing)) == len(thing) and all(
        (min(two), max(two)) in frame[1] for two in zip(thing, thing[1:]))


def two_known(frame):
    """All colours of a frame, found by trying all."""
    return [
        own for own in itertools.product((0, 1), repeat=frame[0])
        if all(own[low] != own[high] for low, high in frame[1])
        and all(own[min(part)] == 0 for part in {tuple(j for j, far in enumerate(row_of) if far is not None)
                                                 for row_of in lengths(frame)})]


def nearest(frame, one, goal):
    """The stand that fits and is nearest, None if none fits; by the fewest beams between."""
    steps, here = lengths(frame), list(one)
    for start, height in goal:
        for jack in range(frame[0]):
            if steps[start][jack] is not None:
                here[jack] = min(max(here[jack], height - steps[start][jack]), height + steps[start][jack])
    return tuple(here) if all(here[jack] == height for jack, height in goal) and stands(frame, here) else None


class Own:
    """A judge of the tests' own: what is so by searches, what shows it as the document says it."""

    def __init__(self, claim):
        self.word, self.frame, self.rest = claim[0], claim[1], claim[2:]
        getattr(self, "look_" + self.word)(*self.rest)

    def shown(self, thing):
        return getattr(self, "shown_" + self.word)(thing, *self.rest)

    def look_two(self):
        self.so = two_known(self.frame) != []

    def shown_two(self, thing):
        if not isinstance(thing, tuple) or not all(type(own) is int for own in thing):
            return None
        if thing in two_known(self.frame):
            return True
        round_about = len(thing) > 2 and len(thing) % 2 == 0 and thing[0] == thing[-1]
        return False if round_about and is_a_way(self.frame, thing[1:]) and is_a_way(self.frame, thing[:-1]) else None

    def look_ways(self, one, other, cost):
        low, high = min(one + other) - 1, max(one + other) + 1
        self.least = cheapest_ways(self.frame, one, low, high, cost).get(other)

    def look_come(self, prices, one, other):
        self.look_ways(one, other, lambda deed: cost_of(prices, deed))
        self.so = self.least is not None

    def shown_come(self, thing, prices, one, other):
        if is_led(self.frame, one, other, thing) and is_let(prices, thing):
            return True
        return False if is_barred(self.frame, prices, one, other, thing) else None

    def look_fewest(self, one, other, many):
        self.look_ways(one, other, lambda deed: 1)
        self.so = self.least <= many

    def shown_fewest(self, thing, one, other, many):
        if is_led(self.frame, one, other, thing):
            return True if len(thing) <= many else (False if len(thing) == self.least else None)
        size = sum(abs(here - there) for here, there in zip(one, other)) - len(pairs_of(one, other))
        coupled = are_coupled(self.frame, one, other, thing, range(self.frame[0]))
        return False if coupled and size + len(thing) > many else None

    def look_cheap(self, prices, one, other, price):
        self.look_ways(one, other, lambda deed: cost_of(prices, deed))
        self.so = self.least is not None and self.least <= price

    def shown_cheap(self, thing, prices, one, other, price):
        if is_led(self.frame, one, other, thing):
            if not is_let(prices, thing):
                return None
            paid = sum(cost_of(prices, stop) for stop in thing)
            return True if paid <= price else (False if paid == self.least else None)
        if is_barred(self.frame, prices, one, other, thing):
            return False
        stops = pairs_of(one, other) + [(jack, height) for jack, height in enumerate(other) if height != one[jack]]
        paid = sum(cost_of(prices, stop) or 0 for stop in stops)
        loads = are_loads(self.frame, prices, one, other, thing)
        return False if loads and paid - sum(part[2] for part in thing) > price else None

    def look_lot(self, one, other, lot, many):
        self.look_ways(one, other, lambda deed: 1 if deed[0] in lot else 0)
        self.so = self.least <= many

    def shown_lot(self, thing, one, other, lot, many):
        if is_led(self.frame, one, other, thing):
            own = len([deed for deed in thing if deed[0] in lot])
            return True if own <= many else (False if own == self.least else None)
        size = sum(abs(one[jack] - other[jack]) for jack in lot)
        pairs = len([pair for pair in pairs_of(one, other) if pair[0] in lot])
        return False if are_coupled(self.frame, one, other, thing, lot) and size - pairs + len(thing) > many else None

    def look_fits(self, goal):
        self.so = nearest(self.frame, (0,) * self.frame[0], goal) is not None

    def shown_fits(self, thing, goal):
        told = dict(goal)
        sound = isinstance(thing, tuple) and all(type(own) is int for own in thing)
        if sound and len(thing) == self.frame[0] and stands(self.frame, thing):
            if all(thing[jack] == height for jack, height in goal):
                return True
        if sound and is_a_way(self.frame, thing) and thing[0] in told and thing[-1] in told:
            return False if abs(told[thing[0]] - told[thing[-1]]) > len(thing) - 1 else None
        return None

    def look_move(self, one, goal, jack):
        self.near = nearest(self.frame, one, goal)
        self.so = self.near[jack] != one[jack]

    def shown_move(self, thing, one, goal, jack):
        told = dict(goal)
        if is_a_way(self.frame, thing) and thing[0] in told and thing[-1] == jack and self.so:
            beams = len(thing) - 1
            height = told[thing[0]] - beams if self.near[jack] > one[jack] else told[thing[0]] + beams
            return True if height == self.near[jack] else None
        if is_led(self.frame, one, None, thing) and not any(deed[0] == jack for deed in thing):
            last = walk(self.frame, one, thing)[-1]
            return False if all(last[own] == height for own, height in goal) else None
        return None


def bent(thing):
    """thing and what comes of it by one change: left out, put in twice, turned, a number more or less, lists."""
    yield thing
    yield listed(thing)
    if isinstance(thing, tuple):
        yield thing[::-1]
        yield (thing,)
        yield thing + (None,)
        for at, part in enumerate(thing):
            yield thing[:at] + thing[at + 1:]
            yield thing[:at] + (part,) + thing[at:]
            for own in bent(part):
                yield thing[:at] + (own,) + thing[at + 1:]
    elif type(thing) is int:
        yield from (thing - 1, thing + 1, str(thing), None, thing == 1)


def claims_of_frames():
    return [("two", frame) for frame in list(small_frames()) + some_frames()]


def claims_of_plans(seed):
    """Claims that plans lead there: fewer deeds, prices, own deeds than are needed, as many, and more."""
    maker = Maker(seed)
    for frame, one, other in made(seed, 3, 0, 7, 0, 3, FRAMES):
        for many in {0, maker.among(0, 3), sum(abs(here - there) for here, there in zip(one, other)) - maker.among(0, 3)}:
            yield ("fewest", frame, one, other, max(0, many))
            lot = tuple(jack for jack in range(frame[0]) if maker.below(3))
            yield ("lot", frame, one, other, lot, max(0, many - maker.below(3)))
        for barred in (0, 2, 5):
            prices = some_prices(maker, frame[0], 0, 3, barred, 3)
            yield ("come", frame, prices, one, other)
            for price in {0, maker.among(0, 9), maker.among(5, 20)}:
                yield ("cheap", frame, prices, one, other, price)


def claims_of_goals(seed):
    maker = Maker(seed)
    for frame in FRAMES + [HOUSE, ring(5)]:
        for _ in range(6):
            jacks = sorted(maker.mixed(range(frame[0]))[:maker.among(0, 3)])
            goal = tuple((jack, maker.among(0, 3)) for jack in jacks)
            one = maker.stand(frame, 0, 2)
            yield ("fits", frame, goal)
            if nearest(frame, one, goal) is not None:
                for jack in range(frame[0]):
                    yield ("move", frame, one, goal, jack)


class Judge(Case):

    def test_examples(self):
        self.examples(EXAMPLES, {**vars(judge), **vars(errors)})

    def check(self, claims):
        """Each claim: so as a search says; its paper shows that; of all papers, bent ones too, none shows the other."""
        pool, kinds = [(), None, 0, "goal", ((),)], {}
        for claim in claims:
            own = Own(claim)
            so = self.tell(is_so, claim)
            self.assertIs(so, own.so, claim)
            told = self.tell(paper, claim)
            self.assertIs(own.shown(told), so, (claim, told))
            self.assertIs(self.tell(shows, claim, told), so)
            self.assertIs(self.tell(is_paper, claim, told), True)
            things = list(bent(told))
            for thing in things + pool:
                wanted = own.shown(thing)
                self.assertIn(wanted, (None, so))
                self.assertIs(shows(claim, thing), wanted, (claim, thing))
                self.assertIs(is_paper(claim, thing), wanted is not None)
            pool = [told] + pool[:30]
            kinds[claim[0], so] = kinds.get((claim[0], so), 0) + 1
        return kinds

    def test_two_coloured(self):
        kinds = self.check(claims_of_frames())
        self.assertGreater(min(kinds.values()), 20)

    def test_plans(self):
        kinds = self.check(claims_of_plans(71))
        self.assertEqual(len(kinds), 8)
        self.assertGreater(min(kinds.values()), 8)

    def test_goals(self):
        kinds = self.check(claims_of_goals(72))
        self.assertEqual(len(kinds), 4)
        self.assertGreater(min(kinds.values()), 8)

    def test_all_kinds_of_papers(self):
        """Shortest and cheapest plans show that it is not so, too; couples and loads wherever they do."""
        for frame, one, other in made(73, 2, 2, 7, 0, 3, FRAMES):
            prices = some_prices(Maker(frame[0]), frame[0], 0, 3, 0)
            everyone = tuple(range(frame[0]))
            for many in (0, 1, 2, 3, 4, 5, 6, 8, 11):
                few, lot = ("fewest", frame, one, other, many), ("lot", frame, one, other, everyone, many)
                cheap = ("cheap", frame, prices, one, other, many)
                for claim in (few, lot, cheap):
                    own = Own(claim)
                    things = [paper(("fewest", frame, one, other, 99)), paper(("cheap", frame, prices, one, other, 999))]
                    if is_two_coloured(frame):
                        couples, loads = greatest_couples(frame, one, other), least_loads(frame, one, other, prices)
                        things += [couples, couples[1:], loads, tuple((near, far, by + 1) for near, far, by in loads)]
                    for thing in things:
                        self.assertIs(shows(claim, thing), own.shown(thing))

    def test_papers_of_frames_without_two_colours(self):
        """Where no couples are enough a plan shows it."""
        one, other = (0, 0, 0), (3, 3, 3)
        self.assertIs(shows(("fewest", HOOP, one, other, 6), paper(("fewest", HOOP, one, other, 6))), False)
        self.assertEqual(len(paper(("fewest", HOOP, one, other, 6))), 7)
        self.assertIs(shows(("fewest", HOOP, one, other, 5), greatest_couples(PATH, one, other)), False)
        self.assertIs(shows(("fewest", HOOP, one, other, 6), greatest_couples(PATH, one, other)), None)
        even = ((1, ()),) * 3
        for price in range(9):
            claim = ("cheap", HOOP, even, one, other, price)
            self.assertIs(shows(claim, paper(claim)), price >= 7)
            claim = ("lot", HOOP, one, other, (0, 1, 2), price)
            self.assertIs(shows(claim, paper(claim)), price >= 7)
        # In two-coloured frames couples and loads are told, plans only where it is so.
        self.assertEqual(paper(("fewest", PAIR, (0, 0), (2, 2), 2)), (((0, 1), (1, 1)),))
        self.assertEqual(paper(("lot", PAIR, (0, 0), (2, 2), (0, 1), 2)), (((0, 1), (1, 1)),))
        self.assertEqual(sum(part[2] for part in paper(("cheap", PAIR, ((1, ()), (5, ())), (0, 0), (2, 2), 6))), 5)

    def test_a_goal_bar_that_is_a_stand(self):
        self.assertIs(shows(("fits", PATH, ((0, 0), (2, 5))), (0, 1, 2)), False)
        self.assertIs(shows(("fits", PATH, ((0, 0), (2, 2))), (0, 1, 2)), True)
        self.assertIs(shows(("fits", PATH, ((0, 0), (2, 1))), (0, 1, 2)), None)

    def test_claims(self):
        for claim in CLAIMS + NOT_SO:
            self.assertIs(is_claim(claim), True)
            self.assertIs(is_claim(listed(claim)), False)
            for wrong in (claim[:-1], claim + (0,), claim[1:], ("lift",) + claim[1:], (0,) + claim[1:], (claim,),
                          (None,) + claim[1:], (("two",),) + claim[1:], claim[:1] + (None,) + claim[2:],
                          claim[:1] + ((2, ()),) + claim[2:], claim[:1] + ((2, [(0, 1)]),) + claim[2:]):
                self.assertIs(is_claim(wrong), False, wrong)
            for at in range(1, len(claim)):
                for wrong in (None, True, "0", -1, (0, 2), (0, None), ((0, 1), (0, 2)), ((5, 1),), [], (1, 0, 1), (3,), (True,),
                              ((1, ()),) * 3, ((0, ()),) * 2, False):
                    self.assertIs(is_claim(claim[:at] + (wrong,) + claim[at + 1:]), False, (claim, at, wrong))
        self.none_of(is_claim, NO_THINGS + ((), ("two",), ("fewest",), ("move", PAIR, (0, 0), ((1, 2),), 2)))
        big = 10 ** 40
        for claim in (("fewest", PAIR, (big, big), (0, 0), big), ("lot", PAIR, (0, 0), (2, 2), (), 0), ("fits", PAIR, ()),
                      ("fewest", NINE_ODD, (0,) * 9, (1,) * 9, 0), ("fits", PAIR, ((0, 0), (1, big))),
                      ("move", PAIR, (0, 0), ((0, 0), (1, big)), 1), ("cheap", PAIR, EVEN, (0, 0), (big, big), big)):
            self.assertIs(is_claim(claim), True)

    def test_several_claims(self):
        self.assertEqual(self.tell(not_so, CLAIMS[:6]), ())
        self.assertEqual(self.tell(not_so, NOT_SO[:6]), (0, 1, 2, 3, 4, 5))
        self.assertEqual(self.tell(words_so, CLAIMS[:6]), ("cheap", "come", "fewest", "fits", "lot", "two"))
        self.assertEqual(self.tell(words_so, NOT_SO[1:]), ())
        self.assertEqual((not_so(()), words_so(()), not_so([]), words_so([])), ((), (), (), ()))
        maker = Maker(74)
        pool = [(claim, True) for claim in CLAIMS] + [(claim, False) for claim in NOT_SO]
        for _ in range(60):
            told = [maker.one_of(pool) for _ in range(maker.among(0, 6))]
            claims = tuple(claim for claim, _ in told)
            self.assertEqual(not_so(claims), tuple(at for at, (_, so) in enumerate(told) if not so))
            words = sorted({claim[0] for claim in claims})
            wanted = tuple(word for word in words if all(so for claim, so in told if claim[0] == word))
            self.assertEqual(words_so(claims), wanted)
            self.assertEqual(words_so(claims + claims), wanted)

    def raised(self, error, claim, **attributes):
        """All functions with a claim raise just this."""
        for call in FUNCTIONS:
            for own in (claim, listed(claim)):
                with self.assertRaises(error) as caught:
                    call(own)
                self.assertIs(type(caught.exception), error)
                self.assertEqual(vars(caught.exception), attributes)

    def test_words(self):
        for word in ("lift", "", "Two", "two ", "fewest\n", "goal"):
            for rest in ((PAIR,), (), (None, 0), CLAIMS[2][1:]):
                self.raised(errors.NoWord, (word,) + rest, word=word)
        for claim in CLAIMS:
            for wrong in ((), claim[:-1], claim + (0,), claim[:1], (0,) + claim[1:], (None,) + claim[1:], claim[1:],
                          (True,) + claim[1:], (("two",),) + claim[1:]):
                self.raised(errors.Unfit, wrong)
        for wrong in (None, 0, "two"):
            self.raised(errors.Unfit, wrong)

    def test_unfit_and_jacks(self):
        for frame in (None, 0, (2, ()), (3, ((0, 1),)), "a"):
            self.raised(errors.Unfit, ("two", frame))
            self.raised(errors.Unfit, ("lot", frame, (0, 0), (2, 2), (1,), 1))
        for lot in (None, 0, (1, 0), (0, 0), (2,), (-1,), ((0,),), "0"):
            self.raised(errors.Unfit, ("lot", PAIR, (0, 0), (2, 2), lot, 1))
            # Ahead of TooMany.
            self.raised(errors.Unfit, ("lot", PAIR, (0, 0), (999, 999), lot, 1))
        self.raised(errors.Unfit, ("lot", PAIR, (0, 2), (2, 2), (1,), 1))
        self.raised(errors.Unfit, ("lot", PAIR, (0, 0), (2, 2, 2), (1,), 1))
        for jack in (-1, 2, 10 ** 6):
            self.raised(errors.NoJack, ("move", PAIR, (0, 0), ((1, 2),), jack), jack=jack)
            self.raised(errors.NoJack, ("move", PAIR, (0, 0), ((0, 0), (1, 2)), jack), jack=jack)
        self.raised(errors.CanNot, ("move", PAIR, (0, 0), ((0, 0), (1, 2)), 1))
        self.raised(errors.CanNot, ("move", NINE_ODD, (0,) * 9, ((0, 0), (1, 2)), 1))

    def test_one_claim_whole_then_the_next(self):
        cannot, torn = ("move", PAIR, (0, 0), ((0, 0), (1, 2)), 1), ("two", (2, ()))
        for function in (not_so, words_so):
            self.refused(errors.CanNot, function, (cannot, torn))
            self.refused(errors.Unfit, function, (torn, cannot))
            self.refused(errors.NoWord, function, (CLAIMS[0], ("lift",), torn), word="lift")
            self.refused(errors.Unfit, function, (NOT_SO[0], torn, ("lift",)))
            # Also if the word is known not to be so.
            self.refused(errors.Unfit, function, (NOT_SO[0], torn))
            self.refused(errors.Unfit, function, (CLAIMS[0], ()))

    def test_too_many(self):
        zeros = (0,) * 9
        nine = ((1, ()),) * 9
        for claim in (("fewest", PAIR, (0, 0), (240, 241), 999), ("fewest", NINE_ODD, zeros, zeros, 9),
                      ("cheap", PAIR, EVEN, (0, 0), (241, 240), 999), ("cheap", NINE_ODD, nine, zeros, zeros, 9),
                      ("cheap", PAIR, ((1, ((241, None),)), (1, ())), (0, 0), (241, 241), 999),
                      ("lot", PAIR, (0, 0), (240, 241), (0,), 999), ("lot", NINE_ODD, zeros, zeros, (0,), 9)):
            self.raised(errors.TooMany, claim)
        for claim in (("fewest", PAIR, (0, 0), (240, 240), 300), ("cheap", PAIR, EVEN, (0, 0), (240, 240), 300),
                      ("lot", PAIR, (0, 0), (240, 240), (0,), 300), ("fewest", row(9), zeros, zeros, 9)):
            for call in FUNCTIONS:
                call(claim)

    def test_too_many_of_plans_that_are_told(self):
        """At "come" and "move" TooMany comes of paper alone, and only where it tells a plan."""
        nine = ((1, ()),) * 9
        far, shut = (1000, 1000), ((1, ((1000, None),)), (1, ()))
        come = ("come", PAIR, EVEN, (0, 0), far)
        self.refused(errors.TooMany, paper, come)
        self.refused(errors.TooMany, paper, ("come", NINE_ODD, nine, (0,) * 9, (1,) * 9))
        self.assertIs(is_so(come), True)
        self.assertIs(shows(come, None), None)
        self.assertIs(is_paper(come, ((0, 1),)), False)
        self.assertEqual(words_so((come,)), ("come",))
        walls = ("come", PAIR, shut, (0, 0), far)
        self.assertEqual((is_so(walls), paper(walls), shows(walls, ("goal", (0, 1000)))), (False, ("goal", (0, 1000)), False))
        plan = tuple((jack, height) for height in range(1, 1001) for jack in (0, 1))
        self.assertIs(shows(come, plan), True)
        goal = ((0, 1000),)
        moves = ("move", PAIR, (0, 0), goal, 1)
        self.assertEqual((is_so(moves), paper(moves), shows(moves, (0, 1))), (True, (0, 1), True))
        apart = (4, ((0, 1), (2, 3)))
        stays = ("move", apart, (0, 0, 0, 0), goal, 2)
        self.refused(errors.TooMany, paper, stays)
        self.assertEqual((is_so(stays), shows(stays, None), not_so((stays,))), (False, None, (0,)))
        self.assertIs(shows(stays, plan), False)
        stays = ("move", NINE_ODD, (0,) * 9, ((0, 0),), 1)
        self.refused(errors.TooMany, paper, stays)
        self.assertIs(shows(stays, ()), False)
        self.assertEqual(paper(("move", NINE_ODD, (0,) * 9, ((0, 2),), 1)), (0, 1))
        self.assertIs(is_so(("fits", NINE_ODD, ((0, 10 ** 6),))), True)

    def test_things_that_are_none(self):
        for claim in CLAIMS + NOT_SO:
            own = Own(claim)
            for thing in NO_THINGS + ((), ((0, 1),), (0,), (0, 1), (0, 0)):
                self.assertIs(shows(claim, thing), own.shown(thing), (claim, thing))
                self.assertIs(is_paper(claim, thing), own.shown(thing) is not None)

    def test_at_the_bounds(self):
        maker = Maker(75)
        for frame in (WIDE_TWO, FLOOR, full(7)):
            n = frame[0]
            high = (480 // n,) * n
            zeros, prices = (0,) * n, tuple((maker.among(1, 10 ** 6), tuple(
                (level, maker.below(10 ** 6)) for level in range(20))) for _ in range(n))
            for claim in (("two", frame), ("come", frame, prices, zeros, high), ("fewest", frame, zeros, high, 200),
                          ("fewest", frame, zeros, high, 480), ("cheap", frame, prices, zeros, high, 10 ** 6),
                          ("cheap", frame, prices, zeros, high, 10 ** 9), ("lot", frame, zeros, high, (0, 1, 5), 60),
                          ("lot", frame, zeros, high, tuple(range(n)), 400), ("fits", frame, ((0, 10 ** 6), (1, -10 ** 6))),
                          ("fits", frame, ((0, 10 ** 6),)), ("move", frame, zeros, ((0, 30),), n - 1)):
                told = paper(claim)
                self.assertIs(shows(claim, told), is_so(claim))
        claims = (("fewest", WIDE_TWO, (0,) * 12, (40,) * 12, 246),) * 3 + (("two", WIDE), ("two", WIDE_TWO), CLAIMS[5])
        self.assertEqual((not_so(claims), words_so(claims)), ((3,), ("fewest", "fits")))
