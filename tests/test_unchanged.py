"""Point 3, for what stages 3 to 6 built: lists for tuples, nothing passed is changed, what is told is new each time."""

import unittest

from samefromhere import (beginnings, coins, comparisons, countrows, courses, doors, eventruns, finals, finders, fooled, gates,
                          groups, guesses, joinedpieces, joints, leastpieces, mappers, marking, meetings, netrows, orders,
                          patterns, pieces, piecetables, questions, ringaxes, ringkinds, rings, ringsenses, rowkinds,
                          rowlists, shutnets, steadyplans, throwing, throws, turnnets, unlikes, walks)
from samefromhere.nets import Net
from samefromhere.pieces import Piece
from samefromhere.views import view, view_plan
from tests.helpers import PATH, PIECE, R, TREE_HALF, TRIANGLE, mix_plan, ring

B = Net(["a", "b"], [(0, 1, "", 0), (0, 1, "", 1), (1, 0, "", "")])
ROW = [R, Net(["a", "b"] * 2, [(0, 1, "", ""), (2, 3, 0, 0)])]
FINAL = view(TREE_HALF, 0, 4)
OPEN = view(TRIANGLE, 0, 2)
SIGNS = ["a", ("b", (0,)), "a", ("b", (0,))]
MODULI = (2, 2)
STEPS = ((0, 1), (1, 0))


def right(index, told):
    return True


def goer(seen):
    return ("go", seen[-1][1][-1]) if len(seen) < 3 else ["told", [seen[0][0]]]


THROWER = (lambda sign, number: number, lambda state, out: [state], lambda state, heard, number: (state + number) % 2,
           lambda state: ["t", []] if state else 0)
EVENTS = (lambda sign: (sign, 0), lambda state, out: [[state]] if state[1] < 2 else [],
          lambda state, into, letter: (state[0], state[1] + 1), lambda state: state)

STEADY = (lambda sign, state, out: [sign, state], lambda sign, state, heard: [[sign], len(heard)],
          lambda sign, state: (sign, state))
FEW = (lambda sign, state, out: [state], lambda sign, state, heard: [2] if state == 1 else 1 if heard else 0,
       lambda sign, state: state)
OTHER = Piece(["a", "a"], [(1, 0, "", "")], [[(1, "x")], [(1, "y")]], [(0, "")])
AROUND = Piece(["b", ("c",)], [], [[(1, ("i",))]], [(0, "o"), (1, ("o",))])
LONGER = Piece(["a"] * 3, [(1, 0, "", ""), (1, 2, "", "")], PIECE.parts()[2], [(2, "")])

CALLS = [
    (marking.marked, R, (0, 2)), (marking.fewest_marked, R, (0, (1, ())), right, None),
    (marking.words_for, R, (0, (1, ())), right, None), (countrows.count_row, B, B),
    (countrows.is_count_row, B, (2, 1)), (countrows.count_rows, B, 5),
    (questions.rows_apart, B, ((1, 1), (2, 1)), lambda row: row),
    (questions.break_count, B, ((1, 1), (2, 1)), lambda row: row, mix_plan(), 2),
    (comparisons.least_weights, B, (1, -1)), (comparisons.are_weights, B, (1, -1), (0, 1)),
    (comparisons.row_below, B, (-1, 1)), (comparisons.share_bound, B, (1, 0), (1, 1)),
    (doors.share_row, B, (1, 2)), (doors.ways_to, B, 1), (doors.marked_rows, B, 1, 2),
    (finals.ended, PATH, mix_plan(), 2), (finals.is_door_view, FINAL), (finals.is_final, FINAL),
    (finals.final_net, FINAL), (finals.open_pair, OPEN), (finals.sizes_with, FINAL), (finals.twice, FINAL),
    (finals.twice, OPEN), (shutnets.is_shut, PATH), (shutnets.final_after, PATH), (joints.joint_net, (OPEN, OPEN)),
    (joints.views_clash, (FINAL, OPEN)), (joints.strong_net, (OPEN, view(R, 1, 2))),
    (fooled.fooling, TRIANGLE, PATH, 1), (fooled.break_end, TRIANGLE, TREE_HALF, view_plan(), 1, lambda net: (len(net),)),
    (guesses.guess, view(R, 1, 3)), (guesses.settled_after, R), (rings.one_way_ring, SIGNS),
    (rings.door_ring, SIGNS, (0, 1, 0, 0)), (rings.door_row, SIGNS, (0, 1, 0, 0)), (rings.around, SIGNS, 2),
    (ringkinds.least_period, SIGNS), (ringkinds.ring_rounds, SIGNS), (ringkinds.reading, SIGNS, (0, 1, 0, 0), 1, 0, 5),
    (ringkinds.alike_around, (SIGNS, (0, 1, 0, 0), 1), (SIGNS, (0, 1, 0, 0), 2)),
    (ringaxes.ring_axes, SIGNS, (0, 1, 1, 0)), (ringaxes.door_rounds, SIGNS, (0, 1, 1, 0)),
    (ringaxes.kind_size, SIGNS, (0, 1, 1, 0)), (ringaxes.row_turned, SIGNS, (0, 1, 1, 0)),
    (ringaxes.rounds_of_row, SIGNS, (0, 1, 1, 0)), (ringsenses.ring_sense, SIGNS, (0, 1, 0, 0)),
    (ringsenses.barred_by, ("s",) * 4, (0, 0, 1, 1)), (ringsenses.least_colours, SIGNS, (0, 1, 0, 0)),
    (groups.elements_of, MODULI), (groups.steps_to, MODULI, STEPS), (groups.subgroups, MODULI),
    (groups.quotient, MODULI, ((0, 0), (1, 1))), (groups.mirrors, MODULI, STEPS),
    (turnnets.turn_net, MODULI, STEPS, SIGNS), (turnnets.crowd_net, MODULI, STEPS, SIGNS),
    (turnnets.door_net, MODULI, STEPS, SIGNS), (patterns.own_turns, MODULI, SIGNS),
    (patterns.rounds_to_part, MODULI, STEPS, SIGNS), (patterns.turn_base, MODULI, STEPS, SIGNS),
    (patterns.patterns_of, MODULI, ((0, 0), (1, 1)), 2), (patterns.pattern_counts, MODULI, 3),
    (patterns.turn_between, MODULI, SIGNS, SIGNS[::-1]), (patterns.mirrored_kinds, MODULI, STEPS, SIGNS),
    (patterns.apart_answers, MODULI, STEPS, ("a", "b", "c", "d"), 4), (netrows.row_states, ROW, mix_plan(), 3),
    (netrows.row_answers, ROW, mix_plan(), 3), (netrows.row_view, ROW, 1, 3), (rowkinds.row_kinds, ROW, 2),
    (rowkinds.row_kinds_for_ever, ROW), (rowkinds.row_rounds, ROW), (rowkinds.row_ranks, ROW),
    (rowkinds.least_row, ROW), (rowkinds.is_row_map, ROW, ROW, (0, 1, 2, 3)),
    (rowlists.rows_alike_for, ROW, 0, [R], 2), (rowlists.rows_kinds, (ROW, [R]), 2),
    (rowlists.row_choice, (ROW, [R]), 2, (0, (1, ())), right),
    (rowlists.break_rows, (ROW, [R]), 2, lambda index, told: index == 0, mix_plan()),
    (courses.course_kinds, ROW, (0, 1, 1)), (courses.parting_course, ROW, 0, 2), (courses.finest_course, ROW),
    (courses.orders_parting, ROW, 0, 2), (courses.must_part, ROW, 0, 1), (courses.keeping, ROW, 0, 2),
    (courses.is_keeping, ROW, 0, 2, ((), (1, 0))), (walks.walk_seen, PATH, 0, ("r", None, "r")),
    (walks.walk_places, PATH, 0, ("r", None, "r")), (walks.parting_row, PATH, 0, 2),
    (meetings.two_walk, PATH, lambda seen: seen[-1][1][0], 0, 1, 3), (finders.search, PATH, 0, goer, 3),
    (finders.fewest_moves, (PATH, TREE_HALF)), (mappers.marked_search, PATH, 0, mappers.mapper(), 200),
    (finders.search, TREE_HALF, 0, mappers.lone_mapper(), 50), (throws.thrown, R, (0, 1, 2, 3)), (throws.throws_of, PATH, 2),
    (throws.throws_with, R, ((0, 2), (1, 3)), 3), (throws.throw_counts, R, 3), (unlikes.unlike_chance, R, 2),
    (unlikes.sides_for, R, (1, 2)), (unlikes.ring_throws, 6, 2, 3),
    (coins.is_coin_choice, (PATH, R), (0, (1, ())), 1, ({(0, 0, 0): (0, 0, 0)}, {(0,) * 4: ((1, ()), 0) * 2})),
    (coins.worth_of, (PATH, R), (0, (1, ())), right, 1, ({(0, 0, 0): (0, 0, 0)}, {(0,) * 4: ((1, ()), 0) * 2})),
    (coins.best_worth, (PATH,), (0, (1, ())), right, 2), (coins.best_coins, (PATH,), (0, (1, ())), right, 2),
    (coins.plan_worth, (PATH, R), (0, (1, ())), right, mix_plan()[:3] + (lambda state: 0,), 2, 2),
    (throwing.chances, B, THROWER, 2, 2), (throwing.chances_right, B, (0, ("t", ())), right, THROWER, 2, 2),
    (eventruns.quiet_run, B, EVENTS, (0, 5, 7), False), (eventruns.asleep_or_waiting, B, EVENTS, (0, 5, 7), True),
    (orders.order_fault, B, EVENTS, True), (orders.quiet_answers, B, EVENTS, False),
    (steadyplans.answers_from, B, STEADY, ((0, ("x",)), 5), 2), (steadyplans.states_behind, B, STEADY, ((0, ("x",)), 5), 2),
    (steadyplans.answers_from, B, steadyplans.steady(mix_plan(), 2), ((0, ("x",)), 5), 2),
    (beginnings.steady_rounds, B, (0, 1, (2,)), right, FEW, (0, 1, (2,))),
    (beginnings.steady_fault, B, (0, 1), right, FEW, (0, 1, (2,))),
    (pieces.put_in, AROUND, PIECE), (pieces.gate_view, PIECE, 0, 3), (piecetables.pair_table, PIECE, LONGER),
    (piecetables.is_pair_table, PIECE, LONGER, ((0, 2), (1, 1))), (piecetables.piece_parting, PIECE, OTHER),
    (piecetables.is_piece_parting, PIECE, OTHER, piecetables.piece_parting(PIECE, OTHER)),
    (leastpieces.places_needed, LONGER), (leastpieces.least_piece, LONGER), (joinedpieces.pieces_beside, (PIECE, LONGER)),
    (joinedpieces.looped, PIECE, 0, 1), (joinedpieces.cut_out, R, (1, 3)), (gates.gate_delays, LONGER),
    (gates.gates_alike, LONGER), (gates.tellings, LONGER, 0, (0, ("x", ())), 2),
]


def without_lists(thing):
    """Rows as tuples, nets by what they are; so that told things can be compared however they are changed later."""
    if isinstance(thing, (list, tuple)):
        return type(thing).__name__, tuple(without_lists(part) for part in thing)
    if isinstance(thing, dict):
        return "dict", tuple((key, without_lists(part)) for key, part in thing.items())
    if isinstance(thing, Net):
        return "net", tuple(thing.signs()), tuple(thing.roads())
    if isinstance(thing, Piece):
        return "piece", without_lists(thing.parts())
    return thing


def spoil(thing):
    """Changes all lists and dicts in what was told, nets aside."""
    if isinstance(thing, (list, tuple)):
        for part in thing:
            spoil(part)
    if isinstance(thing, list):
        thing.append("spoiled")
    if isinstance(thing, dict):
        thing["spoiled"] = True


def only_words_rows(thing):
    return thing if isinstance(thing, (Net, Piece)) or callable(thing) else \
        [only_words_rows(part) for part in thing] if isinstance(thing, (list, tuple)) else thing


class TestUnchanged(unittest.TestCase):
    def test_lists_for_tuples(self):
        for function, *given in CALLS:
            told = without_lists(function(*given))
            self.assertEqual(without_lists(function(*[only_words_rows(thing) for thing in given])), told, function)

    def test_what_is_passed_stays(self):
        for function, *given in CALLS:
            passed = [only_words_rows(thing) for thing in given]
            before = without_lists(passed)
            function(*passed)
            self.assertEqual(without_lists(passed), before, function)

    def test_what_is_told_is_new(self):
        for function, *given in CALLS:
            passed = [only_words_rows(thing) for thing in given]
            told = function(*passed)
            before = without_lists(told)
            if function not in PLAIN_ANSWERS:
                spoil(told)
            self.assertEqual(without_lists(function(*passed)), before, function)
            self.assertEqual(without_lists(passed), without_lists([only_words_rows(thing) for thing in given]), function)

    def test_what_was_passed_can_be_changed(self):
        signs = ["a", ["b"], "a"]
        senses = [0, 1, 1]
        made = [rings.one_way_ring(signs), rings.door_ring(signs, senses), rings.door_row(signs, senses),
                turnnets.turn_net([3], [[1]], signs), marking.marked(rings.one_way_ring(signs), [1])]
        before = without_lists(made)
        signs[1].append("c")
        signs.clear()
        senses.clear()
        self.assertEqual(without_lists(made), before)
        plan = ringsenses.sense_plan(3)
        net = rings.door_ring(["a"] * 3, [0, 0, 1])
        self.assertEqual(netrows.row_answers([net], plan, 3), netrows.row_answers([net], list(plan), 3))

    def test_nets_told_are_not_shared_lists(self):
        net = ring("ab")
        told = rowkinds.least_row([net, net])
        told.clear()
        self.assertEqual(len(rowkinds.least_row([net, net])), 2)


# These tell the answers of plans and searchers as they are.
PLAIN_ANSWERS = (finals.ended, netrows.row_answers, rowlists.break_rows, fooled.break_end, finders.search)


if __name__ == "__main__":
    unittest.main()
