"""The interface: names, parameters, and that each is defined in the file under which it is listed."""

import importlib
import inspect
import unittest

ROWS = {
    "nets": "roads_in(net, place) roads_out(net, place) marks(net, place)",
    "madenets": "renamed(net, order) beside(nets) doors_known(net) with_signs(net, signs) backward(net)",
    "shapes": "is_two_way(net) is_joined(net) is_strong(net)",
    "plans": "states(net, plan, rounds) told(net, plan, rounds)",
    "views": "view(net, place, rounds) view_plan() state_in(plan, seen)",
    "kinds": "kinds(net, rounds) kinds_for_ever(net) rounds_needed(net) ranks(net)",
    "alike": "alike_for(one, place, other, far) is_closed(one, other, thing) alike_pairs(one, other)",
    "sheets": "is_sheet(thing) holds(net, place, sheet) sheet_rounds(sheet) parting_sheet(one, place, other, far)",
    "leastnets": "least_net(net) common_least(nets) is_map(net, base, thing) maps_over(net, base) "
                 "both_over(one, other)",
    "partings": "is_even(net, thing) made_even(net, parting) pressed(net, parting) even_partings(net) "
                "joined_partings(net, one, other)",
    "netlists": "kinds_of(nets, rounds) rounds_of(nets) parted_nets(nets, rounds)",
    "lifts": "lift(base, copies, picks) picks_back(net, base, images)",
    "turns": "road_pairs(base) turned_lift(base, number, turns) turns_back(net, base, images)",
    "joins": "joined_parts(net) joined_lift(base, number, loops) lone_place(base, copies) strong_lift(base, copies)",
    "liftcounts": "count_picks(base, copies) count_turns(base, number, loops) count_joined(base, number, loops) "
                  "all_turns(base, number, loops) are_like(base, number, one, other) "
                  "count_unlike(base, number, loops) count_unlike_joined(base, number, loops)",
    "wishes": "choices(nets, answers, right, rounds) first_choice(nets, answers, right, rounds) "
              "rounds_for(nets, answers, right) barring(nets, answers, right, rounds)",
    "wishplans": "plan_for(nets, answers, right, rounds) wish_fault(nets, answers, right, plan, rounds) "
                 "break_wish(nets, answers, right, plan, rounds)",
    "written": "written(nets, word)",
}


class TestInterface(unittest.TestCase):
    def test_names_and_parameters(self):
        for file, told in ROWS.items():
            module = importlib.import_module("samefromhere." + file)
            for row in told.split(") "):
                name, parameters = row.rstrip(")").split("(")
                function = getattr(module, name)
                self.assertEqual(function.__module__, module.__name__)
                self.assertEqual(list(inspect.signature(function).parameters), parameters.split(", ") if parameters
                                 else [], name)

    def test_net(self):
        from samefromhere.nets import Net
        self.assertEqual(Net.__module__, "samefromhere.nets")
        self.assertEqual(list(inspect.signature(Net).parameters), ["signs", "roads"])
        for name in ("signs", "roads", "__len__", "__eq__"):
            self.assertIn(name, vars(Net))
