"""Promise [23]: rounds of a crew; and of [3] TooMany for their bound."""

import itertools

from evenlifts import errors, rounds
from evenlifts.fewest import shortest_plan
from evenlifts.frames import colours, is_two_coloured
from evenlifts.rounds import (
    behind_rounds, crew, is_round, is_rounds, level_rounds, many_level_rounds, plan_of_rounds, rounds_bound, rounds_of,
)
from making import (
    Case, FLOOR, HOUSE, KITE, Maker, NO_THINGS, WIDE, WIDE_TWO, doable, full, listed, put, ring, row, small_frames,
    some_frames, star, walk,
)
from slowly import fewest_deeds, made

EXAMPLES = r'''
>>> row, three, stay = (3, ((0, 1), (1, 2))), (3, ((0, 1), (0, 2), (1, 2))), (0, 0, 0)
>>> [is_round(row, stay, own) for own in (((0, 1), (2, 1)), ((2, 1), (0, 1)), ((0, 1), (1, 1)), ((0, 2),), ((0, 0),), (), ((0, 1), (0, -1)))]
[True, False, False, False, False, False, False]
>>> turns = (((0, 1), (2, 1)), ((1, 2),), ((0, 2), (2, 2)))
>>> is_rounds(row, stay, (2, 2, 2), turns), is_rounds(row, stay, (2, 2, 2), turns[::-1]), is_rounds(row, stay, stay, ()), behind_rounds(row, stay, turns[:2])
(True, False, True, (1, 2, 1))
>>> rounds_of(row, stay, ((0, 1), (2, 1), (1, 2), (0, 2), (2, 2))) == turns, plan_of_rounds(row, stay, turns[:2]), crew(turns)
(True, ((0, 1), (2, 1), (1, 2)), 2)
>>> [many_level_rounds(row, own) for own in (2, -3, 0, 40)], is_rounds(row, stay, (5, 5, 5), level_rounds(row, 5)), len(level_rounds(row, -5))
([3, 4, 0, 41], True, 6)
>>> rounds_bound(row, stay, (2, 2, 2)), rounds_bound(three, stay, (3, 3, 3)), rounds_bound(row, (0, 1, 1), (1, 1, 2))
((3, ((0, 1), (1, 2))), (4, ((0, 1), (0, 2), (1, 2))), (1, ((0, 1), (1, 2))))
>>> many_level_rounds(three, 2)
raises CanNot()
>>> behind_rounds(row, stay, (((0, 2),),))
raises Unfit()
'''

ROW, STAY, UP = row(3), (0, 0, 0), (2, 2, 2)
TURNS = (((0, 1), (2, 1)), ((1, 2),), ((0, 2), (2, 2)))
TWO_COLOURED = [frame for frame in some_frames() if is_two_coloured(frame)] + [FLOOR, WIDE_TWO]
ODD = [frame for frame in some_frames() if not is_two_coloured(frame)] + [WIDE]
# What are no rounds from STAY on: neighbours, a deed twice, one that cannot be done, wrong order, an empty one, others.
NO_ROUNDS = (
    (((0, 1), (1, 1)),), (((0, 1), (0, 1)),), (((0, 2),),), (((0, 0),),), (((2, 1), (0, 1)),), ((),), TURNS + ((),),
    TURNS[1:], TURNS[::-1], (((3, 1),),), (((-1, 1),),), TURNS + (None,), (TURNS[0] + (None,),) + TURNS[1:],
    TURNS[0], (TURNS,), (((0, 1, 1),),), (((0,),),), (((0, 1), (0, -1)),), (((0, "1"),),), (((0, None),),),
)


def joined(frame, here, far):
    return (min(here, far), max(here, far)) in frame[1]


def are_a_round(frame, stand, deeds):
    """Whether an ascending tuple of deeds is a round, as the document says it."""
    jacks = [jack for jack, _ in deeds]
    if not deeds or len(set(jacks)) < len(jacks) or any(joined(frame, *two) for two in itertools.combinations(jacks, 2)):
        return False
    return all(deed in doable(frame, stand) for deed in deeds)


def all_rounds(frame, stand, low, high):
    """All rounds at stand with heights from low to high."""
    deeds = sorted(deed for deed in doable(frame, stand) if low <= deed[1] <= high)
    found = [()]
    for deed in deeds:
        found += [own + (deed,) for own in found
                  if all(far != deed[0] and not joined(frame, far, deed[0]) for far, _ in own)]
    return found[1:]


def behind(stand, deeds):
    for deed in deeds:
        stand = put(stand, deed)
    return stand


def slow_rounds(frame, one, other):
    """The fewest rounds that lead there, by a search over all rounds."""
    low, high = min(one + other) - 1, max(one + other) + 1
    known, edge, many = {one}, [one], 0
    while other not in known:
        many += 1
        reached = {behind(stand, own) for stand in edge for own in all_rounds(frame, stand, low, high)}
        edge = list(reached - known)
        known |= reached
    return many


def slow_bound(frame, one, other):
    """For each beam the fewest deeds of its ends alone, by a search."""
    pair = row(2)
    return {beam: fewest_deeds(pair, tuple(one[jack] for jack in beam), tuple(other[jack] for jack in beam))
            for beam in frame[1]}


class Rounds(Case):

    def test_examples(self):
        self.examples(EXAMPLES, {**vars(rounds), **vars(errors)})

    def test_rounds_at_a_stand(self):
        maker, seen = Maker(61), 0
        for frame in list(small_frames())[::4] + [HOUSE, ring(5), star(5)]:
            stand = maker.stand(frame, 0, 2)
            deeds = [(jack, height) for jack in range(frame[0]) for height in range(-1, 4)]
            for many in (1, 2):
                for own in itertools.combinations(deeds, many):
                    wanted = are_a_round(frame, stand, own)
                    self.assertIs(is_round(frame, stand, own), wanted)
                    self.assertIs(is_rounds(frame, stand, behind(stand, own), (own,)), wanted)
                    seen += wanted
            for own in all_rounds(frame, stand, -2, 4)[::7]:
                self.assertIs(self.tell(is_round, frame, stand, own), True)
                for wrong in (listed(own), own + own[:1], own[:1] + own, list(own)):
                    self.assertIs(is_round(frame, stand, wrong), False)
                if len(own) > 1:
                    self.assertIs(is_round(frame, stand, own[::-1]), False)
        self.assertGreater(seen, 100)
        self.none_of(lambda thing: is_round(ROW, STAY, thing), [thing for thing in NO_THINGS])
        self.assertIs(is_round(ROW, (10 ** 6,) * 3, ((0, 10 ** 6 - 1), (2, 10 ** 6 + 1))), True)

    def test_rounds_that_lead(self):
        maker = Maker(62)
        for frame in some_frames():
            one = stand = maker.stand(frame, 0, 2)
            turns = []
            for _ in range(5):
                known = all_rounds(frame, stand, -1, 4)
                turns.append(maker.one_of(known))
                stand = behind(stand, turns[-1])
            told = tuple(turns)
            self.assertIs(self.tell(is_rounds, frame, one, stand, told), True)
            self.assertEqual(self.tell(behind_rounds, frame, one, told), stand)
            plan = self.tell(plan_of_rounds, frame, one, told)
            self.assertEqual(plan, tuple(deed for own in told for deed in own))
            self.assertEqual(walk(frame, one, plan)[-1], stand)
            # Those of a round can be done in whatever order.
            self.assertEqual(walk(frame, one, [deed for own in told for deed in own[::-1]])[-1], stand)
            self.assertIs(is_rounds(frame, one, put(stand, (0, stand[0] + 1)), told), False)
            self.assertEqual(crew(told), max(len(own) for own in told))
            for at in range(len(told)):
                for wrong in (told[:at] + told[at + 1:], told[:at] + told[at:at + 1] + told[at:], told[:at] + ((),) + told[at:]):
                    here, good = one, True
                    for own in wrong:
                        good = good and are_a_round(frame, here, own)
                        here = behind(here, own)
                    self.assertIs(is_rounds(frame, one, stand, wrong), good and here == stand)
                    if not good:
                        self.refused(errors.Unfit, behind_rounds, frame, one, wrong)
                        self.refused(errors.Unfit, plan_of_rounds, frame, one, wrong)
        self.assertEqual((behind_rounds(ROW, STAY, ()), plan_of_rounds(ROW, STAY, ())), (STAY, ()))

    def test_what_are_no_rounds(self):
        for wrong in NO_ROUNDS:
            self.assertIs(is_rounds(ROW, STAY, UP, wrong), False, wrong)
            self.refused(errors.Unfit, behind_rounds, ROW, STAY, wrong)
            self.refused(errors.Unfit, plan_of_rounds, ROW, STAY, wrong)
        for wrong in (listed(TURNS), list(TURNS), (list(TURNS[0]),) + TURNS[1:], (((0, True), (2, 1)),) + TURNS[1:],
                      (((False, 1), (2, 1)),) + TURNS[1:]):
            self.assertIs(is_rounds(ROW, STAY, UP, wrong), False)
        self.none_of(lambda thing: is_rounds(ROW, STAY, STAY, thing))
        self.none_of(lambda thing: is_rounds(ROW, STAY, UP, thing))
        self.assertIs(is_rounds(ROW, STAY, STAY, ()), True)
        self.assertIs(is_rounds(ROW, STAY, UP, ()), False)
        for wrong in (None, 0, "", "a"):
            self.assertRaises(errors.Unfit, behind_rounds, ROW, STAY, wrong)

    def test_rounds_of_plans(self):
        maker = Maker(63)
        for frame in some_frames() + [FLOOR]:
            stand = maker.stand(frame, 0, 2)
            plan = maker.plan(frame, stand, 12, -1, 4)
            told = self.tell(rounds_of, frame, stand, plan)
            self.assertIs(is_rounds(frame, stand, walk(frame, stand, plan)[-1], told), True)
            # Where each deed comes, looked up from those ahead of it.
            place = []
            for at, (jack, _) in enumerate(plan):
                ahead = [place[own] for own in range(at) if plan[own][0] == jack or joined(frame, plan[own][0], jack)]
                place.append(max(ahead, default=-1) + 1)
            wanted = tuple(
                tuple(sorted(plan[at] for at in range(len(plan)) if place[at] == number))
                for number in range(max(place, default=-1) + 1))
            self.assertEqual(told, wanted)
            # Rounds of the deeds of its own rounds are no fewer, and no more.
            self.assertEqual(rounds_of(frame, stand, plan_of_rounds(frame, stand, told)), told)
            self.refused(errors.Unfit, rounds_of, frame, stand, plan + plan[-1:])
            self.refused(errors.Unfit, rounds_of, frame, stand, ((frame[0], 0),))
        self.assertEqual(rounds_of(ROW, STAY, ()), ())
        for wrong in (None, 0, "a", (None,), (0, 1), ((0, 2),), ((0, 0),), ((0, 1, 1),), ((0, "1"),), ((3, 1),), ((0, 1), (0, 1))):
            self.refused(errors.Unfit, rounds_of, ROW, STAY, wrong)

    def test_no_rounds_with_these_deeds_are_fewer(self):
        """All ways to put the deeds of a plan into rounds, each jack's and its neighbours' in the order of the plan."""
        maker = Maker(64)
        for frame in (row(3), ring(3), star(4), KITE, HOUSE, (4, ((0, 1), (2, 3)))):
            for _ in range(4):
                stand = maker.stand(frame, 0, 2)
                plan = maker.plan(frame, stand, 6, -1, 4)
                bound = [(here, later) for later in range(len(plan)) for here in range(later)
                         if plan[here][0] == plan[later][0] or joined(frame, plan[here][0], plan[later][0])]
                many = len(rounds_of(frame, stand, plan))
                fewest = next(
                    count for count in range(len(plan) + 1)
                    if any(all(places[here] < places[later] for here, later in bound)
                           for places in itertools.product(range(count), repeat=len(plan))))
                self.assertEqual(many, fewest)

    def test_level_rounds(self):
        for frame in TWO_COLOURED:
            zeros = (0,) * frame[0]
            for height in (0, 1, -1, 2, 3, -4, 7, 40, -40):
                many = self.tell(many_level_rounds, frame, height)
                self.assertEqual(many, abs(height) + 1 if height else 0)
                told = level_rounds(frame, height)
                self.assertEqual(len(told), many)
                self.assertIs(is_rounds(frame, zeros, (height,) * frame[0], told), True)
                if height:
                    # Each beam shows that they are no fewer.
                    goal = (height,) * frame[0]
                    if abs(height) * frame[0] <= 480:
                        self.assertEqual(rounds_bound(frame, zeros, goal), (many, frame[1]))
            self.tell(level_rounds, frame, 3)
            self.assertEqual(many_level_rounds(frame, 10 ** 6), 10 ** 6 + 1)
            self.assertEqual(level_rounds(frame, 0), ())
        for frame in ODD:
            for height in (0, 1, -2, 40):
                self.refused(errors.CanNot, many_level_rounds, frame, height)
                self.refused(errors.CanNot, level_rounds, frame, height)

    def test_fewest_rounds_beside_a_search(self):
        for frame in (row(2), row(3), row(4), ring(4), star(4), (4, ((0, 1), (2, 3)))):
            for height in (0, 1, 2, -2, 3):
                if frame[0] < 4 or abs(height) < 3:
                    self.assertEqual(
                        many_level_rounds(frame, height), slow_rounds(frame, (0,) * frame[0], (height,) * frame[0]))
        seen = 0
        for frame, one, other in made(65, 3, 0, 4, 0, 2, [row(2), row(3), ring(3), star(4), KITE]):
            many = slow_rounds(frame, one, other)
            self.assertGreaterEqual(many, rounds_bound(frame, one, other)[0])
            self.assertGreaterEqual(len(rounds_of(frame, one, shortest_plan(frame, one, other))), many)
            seen += many == rounds_bound(frame, one, other)[0]
        self.assertGreater(seen, 5)

    def test_bounds(self):
        for frame, one, other in made(66, 3, 0, 60, -2, 5):
            known = slow_bound(frame, one, other)
            most = max(known.values())
            self.assertEqual(self.tell(rounds_bound, frame, one, other),
                             (most, tuple(beam for beam in frame[1] if known[beam] == most)))
        self.assertEqual(rounds_bound(ROW, STAY, STAY), (0, ROW[1]))

    def test_too_many(self):
        self.too_many_levels(rounds_bound, lambda frame, one, other: ())
        # More than eight jacks are not too many here.
        for frame in (WIDE, full(6), WIDE_TWO):
            self.assertEqual(rounds_bound(frame, (0,) * frame[0], (40,) * frame[0]), (41, frame[1]))
        self.assertEqual(rounds_bound(row(2), (0, 0), (240, 240))[0], 241)

    def test_crew(self):
        for told in ((), ((),), TURNS, (((0, 1),), (), ((0, 2), (3, 4), (5, 6))), ((1, 2, 3), (4,))):
            self.assertEqual(self.tell(crew, told), max([0] + [len(own) for own in told]))

    def test_at_the_bounds(self):
        maker = Maker(67)
        for frame in (WIDE, WIDE_TWO, FLOOR):
            zeros = (0,) * 12
            plan = maker.plan(frame, zeros, 500, -20, 20)
            self.assertEqual(len(plan), 500)
            told = rounds_of(frame, zeros, plan)
            self.assertIs(is_rounds(frame, zeros, walk(frame, zeros, plan)[-1], told), True)
            self.assertEqual(sum(len(own) for own in told), 500)
        for frame in (WIDE_TWO, FLOOR):
            colour = colours(frame)
            told = level_rounds(frame, 40)
            self.assertEqual(told[0], tuple((jack, 1) for jack in range(12) if colour[jack] == 0))
            self.assertEqual(crew(told), max(colour.count(0), colour.count(1)))
