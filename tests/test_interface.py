"""Promise [27]: which names there are, in which file, with which arguments; and all errors."""

import ast
import functools
import importlib
import inspect
import pathlib
import unittest

from evenlifts import errors

FOLDER = pathlib.Path(__file__).resolve().parent.parent / "evenlifts"

# The files of the interface that are written, in their order, each name with its parameters.
FILES = {
    "signs": "lines_of(text) words_of(line) number_of(word) word_of(number)",
    "frames": (
        "is_frame(thing) neighbours(frame,jack) parts(frame) part_of(frame,jack) is_two_coloured(frame) colours(frame) "
        "is_colours(frame,thing) odd_ring(frame) is_odd_ring(frame,thing) row_frame(n) ring_frame(n) "
        "floor_frame(rows,columns) renamed(frame,names) put_apart(one,other)"
    ),
    "stands": (
        "is_heights(frame,thing) is_stand(frame,thing) cracks(frame,heights) slack_of(frame,heights) "
        "lesser(frame,one,other) greater(frame,one,other) distance(frame,one,other) raised(frame,one,other) "
        "lowered(frame,one,other) is_between(frame,one,other,thing) all_between(frame,one,other) "
        "level_stand(frame,height) shifted(frame,stand,by) mirrored(frame,stand)"
    ),
    "deeds": (
        "is_deed(frame,thing) can_do(frame,stand,deed) done(frame,stand,deed) room(frame,stand,jack) "
        "deeds_here(frame,stand) walked(frame,stand,plan) comes_to(frame,stand,plan) first_bad(frame,stand,plan) "
        "is_plan(frame,one,other,thing) undoing(frame,stand,plan) gone_on(frame,stand,plan,more) "
        "stops_of(frame,plan,jack) leaped(frame,stand,plan) plan_shifted(plan,by) plan_mirrored(plan)"
    ),
    "parted": (
        "cut_off(frame,one,other,plan) is_cut(frame,one,other,plan) apart(frame,one,other,plan) "
        "is_apart(frame,one,other,plan) woven(frame,one,other,plan,marks) kept_deeds(frame,one,other,plan) "
        "never_back(frame,one,other,plan) is_forward(frame,one,other,plan) saved(frame,one,other,plan)"
    ),
    "passable": (
        "levels_between(frame,one,other,jack) passable(frame,one,other) is_passable(frame,one,other,thing) "
        "are_beside(frame,one,other,near,far) beside(frame,one,other,pair) all_beside(frame,one,other) "
        "joined_lots(frame,one,other) layers(frame,one,other) sides(frame,one,other) stand_past(frame,one,other,pair)"
    ),
    "passings": (
        "is_passing(frame,one,other,thing) lots_at(frame,one,other,level) barred_by(frame,one,other,passing) "
        "filled_up(frame,one,other,passing) all_passings(frame,one,other) how_many_passings(frame,one,other) "
        "most_passed(frame,one,other) greatest_passing(frame,one,other) is_greatest(frame,one,other,thing) "
        "how_many_greatest(frame,one,other) always_passed(frame,one,other) never_passed(frame,one,other) "
        "most_with(frame,one,other,pair) most_without(frame,one,other,pair)"
    ),
    "plans": (
        "plan_of(frame,one,other,passing) is_plan_of(frame,one,other,passing,thing) "
        "deeds_with(frame,one,other,passing) is_straight(frame,one,other,thing) passed_by(frame,one,other,plan) "
        "pass_moment(frame,one,other,plan,pair) stand_at_pass(frame,one,other,plan,pair) "
        "plan_with(frame,one,other,plan,pair) plan_without(frame,one,other,plan,pair) "
        "wasted_stops(frame,one,plan) shortened(frame,one,plan)"
    ),
    "fewest": (
        "fewest(frame,one,other) fewest_up(frame,one,other) fewest_down(frame,one,other) "
        "shortest_plan(frame,one,other) is_shortest(frame,one,other,thing) spare_deeds(frame,one,plan) "
        "can_begin(frame,one,other) can_end(frame,one,other) within(frame,one,many) nearest_of(frame,one,goals) "
        "raised_more(frame,one,other,jack)"
    ),
    "couples": (
        "all_couples(frame,one,other) is_couples(frame,one,other,thing) free_pairs(frame,one,other,couples) "
        "led_on(frame,one,other,couples) is_led_on(frame,one,other,couples,thing) "
        "couples_by(frame,one,other,couples,way) greatest_couples(frame,one,other) cover(frame,one,other) "
        "is_cover(frame,one,other,thing) short_by(frame,one,other,couples) "
        "papers_agree(frame,one,other,couples,passing) odd_round(frame,one,other) is_odd_round(frame,one,other,thing)"
    ),
    "prices": (
        "is_prices(frame,thing) price_at(prices,jack,level) with_price(prices,jack,level,price) "
        "plan_price(frame,prices,one,plan) can_come(frame,prices,one,other) bar(frame,prices,one,other) "
        "is_bar(frame,prices,one,other,thing) cheapest(frame,prices,one,other) cheap_plan(frame,prices,one,other) "
        "heaviest_passing(frame,prices,one,other) is_cheap_plan(frame,prices,one,other,thing) "
        "is_heaviest(frame,prices,one,other,thing) kept_to(frame,prices,one,other,jack,level)"
    ),
    "loads": (
        "open_pairs(frame,one,other,prices) weight_of(frame,one,other,prices,passing) "
        "heaviest_open(frame,one,other,prices) is_heaviest_open(frame,one,other,prices,thing) "
        "is_loads(frame,one,other,prices,thing) loads_sum(frame,one,other,prices,loads) "
        "least_loads(frame,one,other,prices) loads_agree(frame,one,other,prices,loads,passing) "
        "more_by(frame,one,other,prices,pair) less_by(frame,one,other,prices,pair)"
    ),
    "owndeeds": (
        "own_fewest(frame,one,other,jack) least_for_each(frame,one,other) lot_fewest(frame,one,other,lot) "
        "lot_plan(frame,one,other,lot) is_lot_plan(frame,one,other,lot,thing) can_all(frame,one,other,lot) "
        "own_paper(frame,one,other,lot) is_own_paper(frame,one,other,lot,thing) ranked(frame,one,other,lots) "
        "ranked_plan(frame,one,other,lots)"
    ),
    "arrows": (
        "moves(frame,one,other,passing) arrows(frame,one,other,passing) "
        "must_come_ahead(frame,one,other,passing,move) can_come_first(frame,one,other,passing) "
        "is_order(frame,one,other,passing,thing) plan_of_order(frame,one,other,passing,order) "
        "order_of_plan(frame,one,other,plan) how_many_orders(frame,one,other,passing) "
        "order_at(frame,one,other,passing,number) order_number(frame,one,other,passing,order) "
        "led_to(frame,one,other,passing,order,goal) is_led_to(frame,one,other,passing,order,goal,thing)"
    ),
    "stops": (
        "cut_pairs(frame,one,other,middle) fewest_by(frame,one,other,middles) stop_cost(frame,one,other,middles) "
        "visit_plan(frame,one,other,middles) is_visit_plan(frame,one,other,middles,thing) free_stops(frame,one,other) "
        "jack_stop(frame,one,other,jack,height) stand_to_stop(frame,one,other,jack,height) "
        "is_stand_to_stop(frame,one,other,jack,height,thing) stop_paper(frame,one,other,middle) "
        "is_stop_paper(frame,one,other,middle,thing)"
    ),
    "goals": (
        "is_goal(frame,thing) can_fit(frame,goal) goal_bar(frame,goal) is_goal_bar(frame,goal,thing) "
        "nearest_stand(frame,one,goal) must_move(frame,one,goal) why_moved(frame,one,goal,jack) "
        "is_why_moved(frame,one,goal,jack,thing) fewest_to(frame,one,goal) plan_to_goal(frame,one,goal) "
        "is_plan_to_goal(frame,one,goal,thing)"
    ),
    "levels": (
        "level_fewest(frame,high) one_more(frame,high) how_high(frame,many) two_more(frame) settled_at(frame) "
        "colour_plan(frame,high) scaled(heights,slack) stretched(plan,high,slack) slack_fewest(frame,high,slack) "
        "slack_plan(frame,high,slack) is_slack_plan(frame,high,slack,thing)"
    ),
    "high": (
        "loose_lots(frame,lot) fold(frame,lot) table_of(frame,lot) added(table,more) powered(table,number) "
        "passing_at(frame,lot,number) settled(frame,lot) stretches(frame,one,other) high_passing(frame,one,other) "
        "high_fewest(frame,one,other)"
    ),
    "changed": (
        "beam_more(frame,beam) beam_less(frame,beam) loose_beams(frame) jack_more(frame,lot) jack_less(frame,jack) "
        "bears(frame,stand,beam) heights_let(frame,stand,lot) saving(frame,one,other,beam) "
        "greatest_saving(frame,one,other) saving_paper(frame,one,other,beam) "
        "is_saving_paper(frame,one,other,beam,thing)"
    ),
    "rounds": (
        "is_round(frame,stand,thing) is_rounds(frame,one,other,thing) behind_rounds(frame,stand,rounds) "
        "plan_of_rounds(frame,stand,rounds) rounds_of(frame,stand,plan) many_level_rounds(frame,height) "
        "level_rounds(frame,height) rounds_bound(frame,one,other) crew(rounds)"
    ),
    "judge": (
        "is_claim(thing) is_so(claim) paper(claim) is_paper(claim,thing) shows(claim,thing) not_so(claims) "
        "words_so(claims)"
    ),
    "texts": (
        "frame_text(frame) heights_text(heights) plan_text(plan) prices_text(prices) picture(width,heights) "
        "beams_picture(width,heights) read_frame(text) read_heights(text) read_plan(text) read_prices(text) "
        "read_picture(text)"
    ),
    "yard": "",
    "desk": "is_request(line) replies(frame,text) last_yard(frame,text)",
}

# The one class but the errors: its parameters, and its methods with theirs.
YARD = (
    "self,frame", "do(self,edit) undo(self) redo(self) twin(self) edits(self) frame(self) stand(self) prices(self) "
    "goal(self) aim(self) fewest(self) cost(self)"
)

# Files of the program's own use, each ahead of all files of the interface that draw on it.
PRIVATE = ("shapes", "rings", "pairs", "matching", "flows", "tiers", "heaviest", "asked", "piles", "wordings", "held")

ERRORS = {
    "NoJack": (LookupError, "jack"), "NoBeam": (LookupError, "beam"), "NoWord": (LookupError, "word"),
    "NothingDone": (LookupError, None), "Unfit": (ValueError, None), "NoStand": (ValueError, "beam"),
    "CanNot": (ValueError, None), "TooMany": (ValueError, None), "BadText": (ValueError, "line"),
}


@functools.lru_cache(maxsize=None)
def tree_of(name):
    return ast.parse((FOLDER / (name + ".py")).read_text())


@functools.lru_cache(maxsize=None)
def drawn_on(name):
    """The files of the package from which a file imports."""
    return frozenset(
        node.module.split(".")[1] for node in ast.walk(tree_of(name))
        if isinstance(node, ast.ImportFrom) and node.module.startswith("evenlifts."))


class Interface(unittest.TestCase):

    def test_names_are_defined_in_their_files_with_their_parameters(self):
        for name, told in FILES.items():
            own = {node.name: node for node in tree_of(name).body if isinstance(node, ast.FunctionDef)}
            module = importlib.import_module("evenlifts." + name)
            for entry in told.split():
                function, parameters = entry.rstrip(")").split("(")
                self.assertIn(function, own)
                signature = inspect.signature(getattr(module, function))
                self.assertEqual(list(signature.parameters), parameters.split(","), function)
                for parameter in signature.parameters.values():
                    self.assertIs(parameter.default, inspect.Parameter.empty)
                    self.assertEqual(parameter.kind, inspect.Parameter.POSITIONAL_OR_KEYWORD)

    def test_the_class_defines_its_methods_itself(self):
        told = [node for node in tree_of("yard").body if isinstance(node, ast.ClassDef)]
        self.assertEqual([(node.name, node.bases) for node in told], [("Yard", [])])
        own = {node.name: node for node in told[0].body if isinstance(node, ast.FunctionDef)}
        wanted = dict(entry.rstrip(")").split("(") for entry in YARD[1].split())
        wanted.update({"__init__": YARD[0], "__eq__": "self,other", "__len__": "self"})
        self.assertEqual(set(own), set(wanted))
        for method, parameters in wanted.items():
            self.assertEqual([arg.arg for arg in own[method].args.args], parameters.split(","), method)
            self.assertEqual(own[method].args.defaults, [])

    def test_errors(self):
        own = [node.name for node in tree_of("errors").body if isinstance(node, ast.ClassDef)]
        self.assertEqual(sorted(own), sorted(ERRORS))
        for name, (base, attribute) in ERRORS.items():
            error = getattr(errors, name)
            self.assertEqual(error.__bases__, (base,))
            if attribute is None:
                self.assertEqual(vars(error()), {})
                continue
            for value in (5, -1, 0, (0, 1), "lift", None):
                self.assertEqual(vars(error(value)), {attribute: value})
                self.assertEqual(vars(error(**{attribute: value})), {attribute: value})
                with self.assertRaises(base) as caught:
                    raise error(value)
                self.assertEqual(getattr(caught.exception, attribute), value)
            self.assertRaises(TypeError, error)

    def test_files_draw_from_those_ahead_alone(self):
        order = ["errors"] + list(FILES)
        self.assertEqual(drawn_on("errors"), set())
        for at, name in enumerate(order):
            self.assertLessEqual(drawn_on(name) - set(PRIVATE), set(order[:at]), name)
        for name in PRIVATE:
            first = min(at for at, file in enumerate(order) if name in self.all_drawn_on(file))
            self.assertLessEqual(drawn_on(name) - set(PRIVATE), set(order[:first]), name)

    def all_drawn_on(self, name):
        found, ahead = set(), [name]
        while ahead:
            for more in drawn_on(ahead.pop()) - found:
                found.add(more)
                ahead.append(more)
        return found

    def test_no_file_draws_on_itself(self):
        for path in FOLDER.glob("*.py"):
            self.assertNotIn(path.stem, self.all_drawn_on(path.stem))

    def test_the_files_are_those_that_are_told(self):
        names = sorted(path.stem for path in FOLDER.glob("*") if path.name != "__pycache__")
        self.assertEqual(names, sorted(["__init__", "errors"] + list(FILES) + list(PRIVATE)))
