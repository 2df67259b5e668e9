"""Promise [26], the yard: edits, taken back and put back, aims, fewest deeds, costs; equality, length, iteration."""

import copy

from evenlifts import errors, yard as file_of_yard
from evenlifts.goals import nearest_stand
from evenlifts.yard import Yard
from making import (
    Case, FLOOR, HOUSE, KITE, Maker, WIDE, WIDE_TWO, cost_of, is_made_of_tuples, listed, ring, row, some_frames, star,
)
from playing import Play, replayed, some_edit
from slowly import cheapest_ways

EXAMPLES = r'''
>>> yard = Yard((2, ((0, 1),)))
>>> yard.do(("goal", 0, 2)), yard.aim(), yard.fewest(), yard.do(("goal", 1, 2)), yard.fewest(), yard.cost()
(None, (2, 1), 2, None, 3, 3)
>>> yard.do(("price", 0, 1, None)), yard.cost(), yard.do(("price", 1, 1, None)), len(yard), yard.undo(), yard.stand()
(None, 3, None, 4, ('price', 1, 1, None), (0, 0))
>>> yard.do(("plan", ((1, 1), (0, 2), (1, 2)))), yard.stand(), yard.fewest(), yard.twin() == yard
(None, (2, 2), 0, True)
>>> yard.do(("move", 0, 4))
raises NoStand(beam=(0, 1))
>>> yard.do(("out", 1, 0))
raises NoBeam(beam=(1, 0))
'''

PAIR = row(2)
NINE_ODD = (9, tuple(sorted([(jack, jack + 1) for jack in range(8)] + [(0, 2)])))


def held(yard):
    return yard.frame(), yard.stand(), yard.prices(), yard.goal()


def done_by(frame, edits):
    yard = Yard(frame)
    for edit in edits:
        yard.do(edit)
    return yard


class Yards(Case):

    def test_examples(self):
        self.examples(EXAMPLES, {**vars(file_of_yard), **vars(errors)})

    def refused_by(self, yard, error, call, **attributes):
        """call raises just error, and yard is as it was."""
        kept = (held(yard), yard.edits(), len(yard))
        with self.assertRaises(error) as caught:
            call()
        self.assertIs(type(caught.exception), error)
        self.assertEqual(vars(caught.exception), attributes)
        self.assertTrue(all(is_made_of_tuples(own) for own in attributes.values()))
        self.assertEqual((held(yard), yard.edits(), len(yard)), kept)

    def test_a_new_yard(self):
        for frame in some_frames():
            for own in (frame, listed(frame)):
                yard = Yard(own)
                n = frame[0]
                self.assertEqual(held(yard), (frame, (0,) * n, ((1, ()),) * n, (None,) * n))
                self.assertEqual((yard.edits(), len(yard), yard.aim(), yard.cost()), ([], 0, (0,) * n, 0))
                self.assertEqual(yard.fewest(), 0)
                self.refused_by(yard, errors.NothingDone, yard.undo)
                self.refused_by(yard, errors.NothingDone, yard.redo)
        self.assertEqual(Yard(frame=PAIR), Yard(PAIR))

    def test_edits_beside_own_play(self):
        maker, done, wrong = Maker(91), {}, {}
        for frame in some_frames() + [FLOOR]:
            yard, play, edits = Yard(frame), Play(frame), []
            for _ in range(40):
                edit = some_edit(maker, play)
                trouble = play.do(edit)
                own = listed(edit) if maker.below(2) else edit
                kept = copy.deepcopy(own)
                if trouble is None:
                    self.assertIsNone(yard.do(own))
                    edits.append(edit)
                    done[edit[0]] = done.get(edit[0], 0) + 1
                else:
                    self.refused_by(yard, getattr(errors, trouble[0]), lambda: yard.do(own), **trouble[1])
                    wrong[edit[0], trouble[0]] = wrong.get((edit[0], trouble[0]), 0) + 1
                self.assertEqual(own, kept)
                self.assertEqual(held(yard), play.held())
                self.assertTrue(all(is_made_of_tuples(own) for own in held(yard)))
                self.assertEqual((yard.edits(), len(yard)), (edits, len(edits)))
        self.assertEqual(set(done), {"move", "plan", "beam", "out", "more", "goal", "price", "even"})
        self.assertGreater(min(done.values()), 5)
        self.assertLessEqual({
            ("move", "NoJack"), ("move", "Unfit"), ("move", "NoStand"), ("plan", "Unfit"), ("plan", "NoStand"),
            ("beam", "NoJack"), ("beam", "Unfit"), ("beam", "NoStand"), ("out", "NoBeam"), ("out", "Unfit"),
            ("more", "NoJack"), ("goal", "NoJack"), ("price", "NoJack"), ("even", "NoJack"),
        }, set(wrong))

    def test_order_of_errors(self):
        yard = done_by(row(4), [("move", 0, 1), ("move", 3, -1)])
        for edit, error, attributes in (
            (("move", 4, 0), errors.NoJack, {"jack": 4}), (("move", -1, 9), errors.NoJack, {"jack": -1}),
            (("move", 0, 1), errors.Unfit, {}), (("move", 0, 9), errors.NoStand, {"beam": (0, 1)}),
            (("move", 1, 5), errors.NoStand, {"beam": (0, 1)}), (("move", 1, -1), errors.NoStand, {"beam": (0, 1)}),
            (("move", 2, 1), errors.NoStand, {"beam": (2, 3)}),
            (("plan", ((1, 1), (4, 0), (1, 1))), errors.NoJack, {"jack": 4}),
            (("plan", ((1, 1), (1, 1), (4, 0))), errors.Unfit, {}),
            (("plan", ((1, 1), (2, 3), (4, 0))), errors.NoStand, {"beam": (1, 2)}),
            (("beam", 4, 5), errors.NoJack, {"jack": 4}), (("beam", 5, -1), errors.NoJack, {"jack": 5}),
            (("beam", 3, -1), errors.NoJack, {"jack": -1}), (("beam", 0, 4), errors.NoJack, {"jack": 4}),
            (("beam", 0, 1), errors.Unfit, {}), (("beam", 1, 0), errors.Unfit, {}), (("beam", 2, 2), errors.Unfit, {}),
            (("beam", 3, 0), errors.Unfit, {}), (("beam", 0, 3), errors.NoStand, {"beam": (0, 3)}),
            (("out", 0, 2), errors.NoBeam, {"beam": (0, 2)}), (("out", 1, 0), errors.NoBeam, {"beam": (1, 0)}),
            (("out", 7, -9), errors.NoBeam, {"beam": (7, -9)}), (("out", 0, 1), errors.Unfit, {}),
            (("out", 2, 3), errors.Unfit, {}), (("more", 4), errors.NoJack, {"jack": 4}),
            (("goal", 4, 1), errors.NoJack, {"jack": 4}), (("goal", -1, None), errors.NoJack, {"jack": -1}),
            (("price", 4, 1, None), errors.NoJack, {"jack": 4}), (("even", 4, 1), errors.NoJack, {"jack": 4}),
        ):
            for own in (edit, listed(edit)):
                self.refused_by(yard, error, lambda: yard.do(own), **attributes)
        self.assertIsNone(yard.do(("plan", ())))
        self.assertIsNone(yard.do(("out", 1, 2)))
        self.assertEqual(yard.edits()[-2:], [("plan", ()), ("out", 1, 2)])
        self.refused_by(yard, errors.NoBeam, lambda: yard.do(("out", 1, 2)), beam=(1, 2))

    def test_undo_and_redo(self):
        maker = Maker(92)
        for frame in some_frames()[::2]:
            yard, line, undone = Yard(frame), [], []
            for _ in range(60):
                turn = maker.below(5)
                if turn < 2:
                    edit = some_edit(maker, replayed(frame, line))
                    if replayed(frame, line).do(edit) is None:
                        yard.do(edit)
                        line.append(edit)
                        undone = []
                    else:
                        # What raises drops nothing of what was undone.
                        with self.assertRaises((LookupError, ValueError)):
                            yard.do(edit)
                elif turn < 4:
                    if line:
                        edit = yard.undo()
                        self.assertEqual((edit, type(edit)), (line[-1], tuple))
                        undone.append(line.pop())
                    else:
                        self.refused_by(yard, errors.NothingDone, yard.undo)
                elif undone:
                    edit = yard.redo()
                    self.assertEqual((edit, type(edit)), (undone[-1], tuple))
                    line.append(undone.pop())
                else:
                    self.refused_by(yard, errors.NothingDone, yard.redo)
                self.assertEqual(held(yard), replayed(frame, line).held())
                self.assertEqual((yard.edits(), len(yard)), (line, len(line)))

    def test_all_is_put_back_just_so(self):
        maker = Maker(93)
        for frame in some_frames()[1::3]:
            play, yard, seen = Play(frame), Yard(frame), []
            for _ in range(40):
                edit = some_edit(maker, play)
                if play.do(edit) is None:
                    seen.append((held(yard), edit))
                    yard.do(edit)
            last = held(yard)
            for before, edit in seen[::-1]:
                self.assertEqual(yard.undo(), edit)
                self.assertEqual(held(yard), before)
            self.assertRaises(errors.NothingDone, yard.undo)
            for before, edit in seen:
                self.assertEqual(held(yard), before)
                self.assertEqual(yard.redo(), edit)
            self.assertEqual(held(yard), last)
            self.assertRaises(errors.NothingDone, yard.redo)

    def test_twins(self):
        yard = done_by(KITE, [("move", 3, 1), ("goal", 0, 5), ("even", 1, 7), ("more", 2)])
        yard.undo()
        twin = yard.twin()
        self.assertTrue(twin == yard and not twin != yard and twin is not yard)
        self.assertEqual((held(twin), twin.edits()), (held(yard), yard.edits()))
        # Nothing is undone in a twin, and what is done to one is not to the other.
        self.assertRaises(errors.NothingDone, twin.redo)
        self.assertEqual(yard.redo(), ("more", 2))
        self.assertNotEqual(twin, yard)
        twin.do(("more", 2))
        self.assertEqual(twin, yard)
        twin.undo()
        twin.undo()
        self.assertEqual((len(twin), len(yard), held(yard)[0][0]), (2, 4, 5))

    def test_equality(self):
        one, other = Yard(KITE), Yard(listed(KITE))
        self.assertTrue(one == other)
        one.do(("move", 0, 1))
        self.assertFalse(one == other)
        other.do(["move", 0, 1])
        self.assertTrue(one == other and not one != other)
        # The same comes of other lines: yet they are not equal.
        other.do(("move", 0, 0))
        other.do(("move", 0, 1))
        self.assertEqual(held(one), held(other))
        self.assertFalse(one == other)
        # What was undone does not count.
        other.undo()
        other.undo()
        self.assertTrue(one == other)
        # The first frames count, not those behind the line.
        near = done_by(row(3), [("beam", 0, 2)])
        self.assertEqual(near.frame(), Yard(ring(3)).frame())
        self.assertFalse(near == Yard(ring(3)) or near == done_by(ring(3), [("out", 0, 2), ("beam", 0, 2)]))
        self.assertFalse(Yard(row(3)) == Yard(ring(3)))
        self.assertFalse(done_by(row(3), [("move", 0, 1)]) == done_by(ring(3), [("move", 0, 1)]))
        for thing in (None, 0, (), [], "yard", KITE, near.edits()):
            self.assertFalse(near == thing)
            self.assertTrue(near != thing)

    def test_length_and_iteration(self):
        yard = Yard(PAIR)
        for many in range(5):
            self.assertEqual(len(yard), many)
            for call in (lambda: iter(yard), lambda: list(yard), lambda: [0 for _ in yard], lambda: 0 in yard,
                         lambda: tuple(yard), lambda: sorted(yard), lambda: dict(yard)):
                self.assertRaises(TypeError, call)
            yard.do(("more", 0))

    def test_lists_are_new(self):
        frame = [2, [[0, 1]]]
        yard = Yard(frame)
        frame[1].append([0, 0])
        edit = ["plan", [[0, 1], [1, 1]]]
        yard.do(edit)
        edit[1].append([0, 7])
        edit.append(3)
        told = yard.edits()
        self.assertEqual(told, [("plan", ((0, 1), (1, 1)))])
        told.append("changed by its owner")
        told[0] = None
        self.assertEqual(yard.edits(), [("plan", ((0, 1), (1, 1)))])
        self.assertEqual((yard.frame(), yard.stand(), len(yard)), (PAIR, (1, 1), 1))
        self.assertIsNot(yard.edits(), yard.edits())
        yard.do(edit=("goal", 1, None))
        self.assertEqual(len(yard), 2)

    def test_aims_beside_searches(self):
        maker, cannot, torn = Maker(94), 0, 0
        for frame in [row(2), row(3), ring(3), star(4), KITE]:
            for _ in range(14):
                play, yard = Play(frame), Yard(frame)
                edits = [("plan", maker.plan(frame, (0,) * frame[0], 4, -2, 2))]
                edits += [("goal", maker.below(frame[0]), maker.among(-1, 3)) for _ in range(maker.among(0, 3))]
                edits += [("price", maker.below(frame[0]), maker.among(-1, 3), maker.one_of((None, None, 0, 1, 5)))
                          for _ in range(maker.among(0, 9))]
                for edit in edits + [some_edit(maker, play) for _ in range(3)]:
                    if edit[0] != "more" and play.do(edit) is None:
                        yard.do(edit)
                now, stand, prices, goal = held(yard)
                told = tuple((jack, height) for jack, height in enumerate(goal) if height is not None)
                try:
                    near = nearest_stand(now, stand, told)
                except errors.CanNot:
                    torn += 1
                    for call in (yard.aim, yard.fewest, yard.cost):
                        self.refused_by(yard, errors.CanNot, call)
                    continue
                self.assertEqual(yard.aim(), near)
                low, high = min(stand + near) - 1, max(stand + near) + 1
                self.assertEqual(yard.fewest(), cheapest_ways(now, stand, low, high, lambda deed: 1)[near])
                self.assertIs(yard.fewest() == 0, all(stand[jack] == height for jack, height in told))
                least = cheapest_ways(now, stand, low, high, lambda deed: cost_of(prices, deed)).get(near)
                if least is None:
                    cannot += 1
                    self.refused_by(yard, errors.CanNot, yard.cost)
                else:
                    self.assertEqual(yard.cost(), least)
        self.assertGreater(min(cannot, torn), 3)

    def test_too_many(self):
        yard = done_by(PAIR, [("goal", 0, 240), ("goal", 1, 240)])
        self.assertEqual((yard.fewest(), yard.cost()), (241, 241))
        yard.do(("goal", 1, 241))
        self.assertEqual(yard.aim(), (240, 241))
        for call in (yard.fewest, yard.cost):
            self.refused_by(yard, errors.TooMany, call)
        # No plan is let, either: TooMany comes ahead of that. What no stand fits comes ahead of it.
        yard.do(("price", 0, 240, None))
        self.refused_by(yard, errors.TooMany, yard.cost)
        yard.do(("goal", 0, -5))
        for call in (yard.aim, yard.fewest, yard.cost):
            self.refused_by(yard, errors.CanNot, call)
        yard = done_by(NINE_ODD, [("goal", 0, 3)])
        self.assertEqual(yard.aim(), (3, 2, 2, 1, 0, 0, 0, 0, 0))
        for call in (yard.fewest, yard.cost):
            self.refused_by(yard, errors.TooMany, call)
        yard.do(("out", 0, 2))
        self.assertEqual((yard.aim(), yard.fewest(), yard.cost()), ((3, 2, 1) + (0,) * 6, 4, 4))

    def test_at_the_bounds(self):
        maker = Maker(95)
        for frame in (WIDE, WIDE_TWO, FLOOR, HOUSE):
            play, yard = Play(frame), Yard(frame)
            while len(yard) < 40:
                edit = some_edit(maker, play)
                if edit[0] != "more" and play.do(edit) is None:
                    yard.do(edit)
            self.assertEqual(held(yard), play.held())
            self.assertEqual(yard.twin(), yard)
        yard = done_by(WIDE_TWO, [("goal", jack, 40) for jack in range(12)] + [("even", jack, 10 ** 6) for jack in range(12)])
        self.assertEqual((yard.fewest(), yard.cost()), (246, 246 * 10 ** 6))
        plan = tuple((jack, height) for height in range(1, 41) for jack in range(12))
        yard.do(("plan", plan))
        self.assertEqual((yard.fewest(), yard.stand(), len(yard)), (0, (40,) * 12, 25))
        big = done_by(PAIR, [("goal", 0, 10 ** 6), ("goal", 1, 10 ** 6), ("price", 0, 10 ** 6, None)])
        self.assertEqual(big.aim(), (10 ** 6, 10 ** 6))
