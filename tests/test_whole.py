"""Promise [1]: the main guarantees, each through all files that it takes, beside searches over all stands."""

from evenlifts.arrows import how_many_orders, order_at, plan_of_order
from evenlifts.changed import beam_less, greatest_saving, loose_beams
from evenlifts.couples import greatest_couples, odd_round
from evenlifts.desk import last_yard, replies
from evenlifts.errors import CanNot
from evenlifts.fewest import fewest, is_shortest, shortest_plan
from evenlifts.frames import is_two_coloured
from evenlifts.goals import fewest_to, nearest_stand, plan_to_goal
from evenlifts.high import high_fewest
from evenlifts.judge import is_so, paper, shows
from evenlifts.levels import level_fewest, one_more, slack_fewest, slack_plan
from evenlifts.loads import least_loads, loads_agree, heaviest_open
from evenlifts.owndeeds import least_for_each, lot_fewest
from evenlifts.passings import greatest_passing
from evenlifts.plans import plan_of
from evenlifts.prices import bar, can_come, cheap_plan, cheapest, is_bar
from evenlifts.rounds import crew, level_rounds, many_level_rounds, plan_of_rounds, rounds_of
from evenlifts.stops import fewest_by, stop_cost
from evenlifts.texts import (
    frame_text, heights_text, plan_text, prices_text, read_frame, read_heights, read_plan, read_prices,
)
from making import Case, FLOOR, HOUSE, KITE, Maker, are_close, cost_of, full, pairs_of, ring, row, some_prices, star, walk
from slowly import cheapest_ways, fewest_deeds, made, slow_passings

FRAMES = [row(2), row(3), ring(3), row(4), ring(4), star(4), KITE, full(4), (4, ((0, 1), (2, 3)))]


def apart(one, other):
    return sum(abs(here - there) for here, there in zip(one, other))


class Whole(Case):

    def test_the_fewest_deeds_are_the_sizes_less_the_most_that_is_passed(self):
        for frame, one, other in made(111, 5, 0, 10, -1, 3, FRAMES + [HOUSE]):
            many = fewest(frame, one, other)
            self.assertEqual(many, fewest_deeds(frame, one, other))
            self.assertEqual(many, apart(one, other) - max(len(own) for own in slow_passings(frame, one, other)))
            plan = plan_of(frame, one, other, greatest_passing(frame, one, other))
            self.assertEqual((walk(frame, one, plan)[-1], len(plan)), (other, many))
            self.assertTrue(is_shortest(frame, one, other, plan))
            if is_two_coloured(frame):
                couples = greatest_couples(frame, one, other)
                flat = [pair for own in couples for pair in own]
                self.assertTrue(all(are_close(frame, near, far) for near, far in couples))
                self.assertEqual(len(set(flat)), len(flat))
                # Of each couple one at least is stopped at: so many stops besides the ends.
                ends = [jack for jack in range(frame[0]) if one[jack] != other[jack]]
                self.assertEqual(many, len(ends) + len(couples) if pairs_of(one, other) else len(ends))

    def test_prices_and_stops_that_are_forbidden(self):
        maker, kinds = Maker(112), {True: 0, False: 0}
        for frame, one, other in made(113, 6, 1, 8, 0, 3, FRAMES):
            prices = some_prices(maker, frame[0], 0, 3, maker.among(0, 5))
            low, high = min(one + other) - 1, max(one + other) + 1
            least = cheapest_ways(frame, one, low, high, lambda deed: cost_of(prices, deed)).get(other)
            let = can_come(frame, prices, one, other)
            kinds[let] += 1
            self.assertIs(let, least is not None)
            if not let:
                self.assertTrue(is_bar(frame, prices, one, other, bar(frame, prices, one, other)))
                self.assertRaises(CanNot, cheapest, frame, prices, one, other)
                continue
            self.assertRaises(CanNot, bar, frame, prices, one, other)
            self.assertEqual(cheapest(frame, prices, one, other), least)
            plan = cheap_plan(frame, prices, one, other)
            self.assertEqual(sum(cost_of(prices, stop) for stop in plan), least)
            self.assertEqual(walk(frame, one, plan)[-1], other)
            shut = [pair for pair in pairs_of(one, other) if cost_of(prices, pair) is None]
            stops = pairs_of(one, other) + [(jack, level) for jack, level in enumerate(other) if level != one[jack]]
            along = [own for own in slow_passings(frame, one, other) if set(shut) <= set(own)]
            most = max(sum(cost_of(prices, pair) or 0 for pair in own) for own in along)
            self.assertEqual(least, sum(cost_of(prices, stop) or 0 for stop in stops) - most)
            if is_two_coloured(frame):
                loads, passed = least_loads(frame, one, other, prices), heaviest_open(frame, one, other, prices)
                self.assertTrue(loads_agree(frame, one, other, prices, loads, passed))
                self.assertEqual(sum(part[2] for part in loads), most)
        self.assertGreater(min(kinds.values()), 5)

    def test_level_houses(self):
        for frame in FRAMES + [HOUSE, FLOOR, ring(5), star(6)]:
            zeros = (0,) * frame[0]
            for high in (0, 1, 2, 3, 4, 5, 20):
                goal = (high,) * frame[0]
                many = fewest(frame, zeros, goal)
                self.assertEqual(level_fewest(frame, high), many)
                self.assertEqual(slack_fewest(frame, 3 * high, 3), many)
                self.assertEqual(len(slack_plan(frame, 3 * high, 3)) if 3 * high * frame[0] <= 480 else many, many)
                if frame[0] <= 6:
                    self.assertEqual(high_fewest(frame, zeros, goal), many)
                    self.assertEqual(high_fewest(frame, zeros, (10 ** 30 + high,) * frame[0]),
                                     level_fewest(frame, 10 ** 30 + high))
                if is_two_coloured(frame):
                    turns = level_rounds(frame, high)
                    self.assertEqual(len(turns), many_level_rounds(frame, high))
                    plan = plan_of_rounds(frame, zeros, turns)
                    self.assertEqual(walk(frame, zeros, plan)[-1], goal)
                    self.assertLessEqual(crew(turns), frame[0])
                    self.assertEqual(rounds_of(frame, zeros, plan), turns)
            self.assertEqual(one_more(frame, 10 ** 31), level_fewest(frame, 10 ** 31 + 1) - level_fewest(frame, 10 ** 31))

    def test_own_deeds_orders_stops_goals_and_beams(self):
        for frame, one, other in made(114, 2, 1, 8, 0, 3, FRAMES):
            every = tuple(range(frame[0]))
            many = fewest(frame, one, other)
            self.assertEqual(lot_fewest(frame, one, other, every), many)
            self.assertLessEqual(sum(least_for_each(frame, one, other)), many)
            passing = greatest_passing(frame, one, other)
            count = how_many_orders(frame, one, other, passing)
            plans = {plan_of_order(frame, one, other, passing, order_at(frame, one, other, passing, number))
                     for number in range(min(count, 30))}
            self.assertEqual(len(plans), min(count, 30))
            self.assertTrue(all(is_shortest(frame, one, other, plan) for plan in plans))
            # Whatever a shortest plan comes by costs nothing.
            for stand in walk(frame, one, shortest_plan(frame, one, other)):
                self.assertEqual(stop_cost(frame, one, other, (stand,)), 0)
                self.assertEqual(fewest_by(frame, one, other, (stand,)), many)
            goal = tuple(enumerate(other))
            self.assertEqual((nearest_stand(frame, one, goal), fewest_to(frame, one, goal)), (other, many))
            part = goal[:1]
            self.assertLessEqual(fewest_to(frame, one, part), many)
            last = walk(frame, one, plan_to_goal(frame, one, part))[-1]
            self.assertEqual((last[0], last), (other[0], nearest_stand(frame, one, part)))
            for beam in loose_beams(frame):
                less = fewest(beam_less(frame, beam), one, other)
                self.assertTrue(0 <= many - less <= greatest_saving(frame, one, other)[0])

    def test_one_judge_texts_and_a_desk(self):
        maker = Maker(115)
        for frame, one, other in made(116, 3, 1, 7, 0, 2, FRAMES):
            prices = some_prices(maker, frame[0], 0, 3, 2)
            # All through texts.
            self.assertEqual(read_frame(frame_text(frame)), frame)
            self.assertEqual(read_prices(prices_text(prices)), prices)
            self.assertEqual(read_heights(heights_text(other)), other)
            plan = shortest_plan(frame, (0,) * frame[0], one)
            self.assertEqual(read_plan(plan_text(plan)), plan)
            # A desk brings the frame to one, tells prices and the goal, and asks.
            lines = ["plan" + "".join(" {}:{}".format(*deed) for deed in plan)]
            lines += ["even {} {}".format(jack, even) for jack, (even, _) in enumerate(prices)]
            lines += ["price {} {} {}".format(jack, level, "-" if price is None else price)
                      for jack, (_, told) in enumerate(prices) for level, price in told]
            lines += ["goal {} {}".format(jack, height) for jack, height in enumerate(other)]
            told = replies(frame, "\n".join(lines + ["heights", "aim", "fewest", "cost"]))
            self.assertEqual(set(told[:-4]), {"done"})
            self.assertEqual(told[-4:-2], [" ".join(map(str, one)), " ".join(map(str, other))])
            yard = last_yard(frame, "\n".join(lines))
            self.assertEqual((yard.stand(), yard.prices(), yard.goal()), (one, prices, other))
            many = int(told[-2])
            self.assertEqual(many, fewest(frame, one, other))
            claims = [("fewest", frame, one, other, many), ("fewest", frame, one, other, max(0, many - 1)),
                      ("come", frame, prices, one, other), ("two", frame), ("fits", frame, tuple(enumerate(other)))]
            if told[-1] == "no CanNot":
                self.assertFalse(is_so(claims[2]))
            else:
                price = int(told[-1])
                claims += [("cheap", frame, prices, one, other, price), ("cheap", frame, prices, one, other, max(0, price - 1))]
                self.assertEqual([is_so(claim) for claim in claims[-2:]], [True, price == 0])
            for claim in claims:
                self.assertIs(shows(claim, paper(claim)), is_so(claim))
            self.assertEqual([is_so(claim) for claim in claims[:2]], [True, many == 0])

    def test_each_frame_has_colours_or_an_odd_round(self):
        """A level house by two has an odd round of passable pairs exactly if it is not two-coloured."""
        for frame in FRAMES + [HOUSE, ring(5), ring(6)]:
            low, high = (0,) * frame[0], (2,) * frame[0]
            if is_two_coloured(frame):
                self.assertRaises(CanNot, odd_round, frame, low, high)
            else:
                self.assertEqual(len(odd_round(frame, low, high)) % 2, 0)
