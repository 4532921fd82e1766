"""The interface: names, parameters, and that each is defined in the file under which it is listed."""

import importlib
import inspect
import unittest

ROWS = {
    "nets": "roads_in(net, place) roads_out(net, place) marks(net, place)",
    "madenets": "renamed(net, order) beside(nets) doors_known(net) with_signs(net, signs) backward(net)",
    "shapes": "is_two_way(net) is_joined(net) is_strong(net)",
    "plans": "states(net, plan, rounds) told(net, plan, rounds)",
    "views": "view(net, place, rounds) view_plan() state_in(plan, seen)",
    "kinds": "kinds(net, rounds) kinds_for_ever(net) rounds_needed(net) ranks(net)",
    "alike": "alike_for(one, place, other, far) is_closed(one, other, thing) alike_pairs(one, other)",
    "sheets": "is_sheet(thing) holds(net, place, sheet) sheet_rounds(sheet) parting_sheet(one, place, other, far)",
    "leastnets": "least_net(net) common_least(nets) is_map(net, base, thing) maps_over(net, base) "
                 "both_over(one, other)",
    "partings": "is_even(net, thing) made_even(net, parting) pressed(net, parting) even_partings(net) "
                "joined_partings(net, one, other)",
    "netlists": "kinds_of(nets, rounds) rounds_of(nets) parted_nets(nets, rounds)",
    "lifts": "lift(base, copies, picks) picks_back(net, base, images)",
    "turns": "road_pairs(base) turned_lift(base, number, turns) turns_back(net, base, images)",
    "joins": "joined_parts(net) joined_lift(base, number, loops) lone_place(base, copies) strong_lift(base, copies)",
    "liftcounts": "count_picks(base, copies) count_turns(base, number, loops) count_joined(base, number, loops) "
                  "all_turns(base, number, loops) are_like(base, number, one, other) "
                  "count_unlike(base, number, loops) count_unlike_joined(base, number, loops)",
    "wishes": "choices(nets, answers, right, rounds) first_choice(nets, answers, right, rounds) "
              "rounds_for(nets, answers, right) barring(nets, answers, right, rounds)",
    "wishplans": "plan_for(nets, answers, right, rounds) wish_fault(nets, answers, right, plan, rounds) "
                 "break_wish(nets, answers, right, plan, rounds)",
    "written": "written(nets, word)",
    "marking": "marked(net, places) fewest_marked(net, answers, right, rounds) words_for(net, answers, right, rounds)",
    "countrows": "count_row(net, base) is_count_row(base, thing) count_rows(base, most)",
    "questions": "rows_apart(base, rows, question) break_count(base, rows, question, plan, rounds)",
    "comparisons": "least_weights(base, form) are_weights(base, form, thing) row_below(base, form) "
                   "share_bound(base, one, other)",
    "doors": "share_row(base, doors) ways_to(base, place) marked_rows(base, place, many)",
    "finals": "ended(net, plan, rounds) is_door_view(thing) is_final(seen) final_net(seen) open_pair(seen) "
              "sizes_with(seen) twice(seen)",
    "shutnets": "is_shut(net) final_after(net)",
    "joints": "joint_net(views) views_clash(views) strong_net(views)",
    "fooled": "fooling(one, other, rounds) break_end(one, other, plan, rounds, due)",
    "guesses": "guess(seen) settled_after(net)",
    "rings": "one_way_ring(signs) door_ring(signs, senses) door_row(signs, senses) around(signs, times)",
    "ringkinds": "least_period(signs) ring_rounds(signs) reading(signs, senses, start, door, steps) "
                 "alike_around(one, other)",
    "ringaxes": "ring_axes(signs, senses) door_rounds(signs, senses) kind_size(signs, senses) "
                "row_turned(signs, senses) rounds_of_row(signs, senses)",
    "ringsenses": "ring_sense(signs, senses) barred_by(signs, senses) sense_plan(number) "
                  "least_colours(signs, senses) count_barred(number, many) count_heads(number, many)",
    "groups": "elements_of(moduli) steps_to(moduli, steps) subgroups(moduli) quotient(moduli, subgroup) "
              "mirrors(moduli, steps)",
    "turnnets": "turn_net(moduli, steps, signs) crowd_net(moduli, steps, signs) door_net(moduli, steps, signs)",
    "patterns": "own_turns(moduli, signs) rounds_to_part(moduli, steps, signs) turn_base(moduli, steps, signs) "
                "patterns_of(moduli, subgroup, many) pattern_counts(moduli, many) turn_between(moduli, one, other) "
                "mirrored_kinds(moduli, steps, signs) apart_answers(moduli, steps, signs, many)",
    "netrows": "row_states(row, plan, rounds) row_answers(row, plan, rounds) row_view(row, place, rounds)",
    "rowkinds": "row_kinds(row, rounds) row_kinds_for_ever(row) row_rounds(row) row_ranks(row) least_row(row) "
                "is_row_map(row, base, thing)",
    "rowlists": "rows_alike_for(one, place, other, far) rows_kinds(rows, rounds) "
                "row_choice(rows, rounds, answers, right) break_rows(rows, rounds, right, plan)",
    "courses": "course_kinds(row, course) parting_course(row, one, other) finest_course(row) "
               "orders_parting(row, one, other) must_part(row, one, other) keeping(row, one, other) "
               "is_keeping(row, one, other, thing)",
    "walks": "walk_seen(net, place, row) walk_places(net, place, row) parting_row(net, one, other)",
    "meetings": "two_walk(net, plan, one, other, moves) meeting_plan(net)",
    "finders": "search(net, place, searcher, moves) finder(nets) fewest_moves(nets)",
    "mappers": "marked_search(net, place, searcher, turns) mapper() lone_mapper()",
    "throws": "thrown(net, throw) throws_of(net, sides) throws_with(net, parting, sides) throw_counts(net, sides)",
    "unlikes": "unlike_chance(net, sides) sides_for(net, chance) ring_throws(many, period, sides)",
    "coins": "is_coin_choice(nets, answers, sides, thing) worth_of(nets, answers, right, sides, choice) "
             "best_worth(nets, answers, right, sides) best_coins(nets, answers, right, sides) "
             "plan_worth(nets, answers, right, plan, rounds, sides)",
    "throwing": "chances(net, plan, sides, rounds) chances_right(net, answers, right, plan, sides, rounds)",
    "eventruns": "quiet_run(net, plan, picks, in_turn) asleep_or_waiting(net, plan, picks, in_turn)",
    "orders": "order_fault(net, plan, in_turn) quiet_answers(net, plan, in_turn) in_any_order(plan, rounds)",
    "steadyplans": "answers_from(net, plan, begun, rounds) states_behind(net, plan, begun, rounds) steady(plan, rounds)",
    "beginnings": "steady_rounds(net, answers, right, plan, words) steady_fault(net, answers, right, plan, words)",
    "pieces": "put_in(around, piece) gate_view(piece, place, rounds)",
    "piecetables": "pair_table(one, other) is_pair_table(one, other, thing) piece_parting(one, other) "
                   "is_piece_parting(one, other, thing)",
    "leastpieces": "places_needed(piece) least_piece(piece)",
    "joinedpieces": "pieces_beside(pieces) looped(piece, number, gate) cut_out(net, places)",
    "gates": "gate_delays(piece) gates_alike(piece) tellings(piece, number, letters, rounds)",
    "housetexts": "write_house(house) read_house(text)",
}


CLASSES = [
    ("nets", "Net", ["signs", "roads"], "signs(); roads(); __len__(); __eq__(other)"),
    ("pieces", "Piece", ["signs", "roads", "ins", "outs"], "parts(); __eq__(other)"),
    ("houses", "House", [], "nets_kept(); watched(); do(deed); is_question(thing); answer(question); would(deed); "
                            "spare_roads(name); count(); undo(); again(); deeds(); at(number); copy(); trial(work); "
                            "__eq__(other)"),
]


class TestInterface(unittest.TestCase):
    def test_names_and_parameters(self):
        for file, told in ROWS.items():
            module = importlib.import_module("samefromhere." + file)
            for row in told.split(") "):
                name, parameters = row.rstrip(")").split("(")
                function = getattr(module, name)
                self.assertEqual(function.__module__, module.__name__)
                self.assertEqual(list(inspect.signature(function).parameters), parameters.split(", ") if parameters
                                 else [], name)

    def test_classes(self):
        for file, name, parameters, told in CLASSES:
            module = importlib.import_module("samefromhere." + file)
            kind = getattr(module, name)
            self.assertEqual(kind.__module__, module.__name__)
            self.assertEqual(list(inspect.signature(kind).parameters), parameters)
            for row in told.split("; "):
                method, names = row.rstrip(")").split("(")
                # Each method is defined in the class itself.
                function = vars(kind)[method]
                self.assertEqual(list(inspect.signature(function).parameters), ["self"] + [part for part in names.split(", ")
                                                                                          if part])
