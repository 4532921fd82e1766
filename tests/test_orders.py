"""Points 119, 120: event plans in all orders, and plans by rounds made fit for any order."""

import itertools
import random
import time
import unittest

from samefromhere.errors import BadNumber, BadPlan, BadTurn, NoWord
from samefromhere.eventruns import quiet_run
from samefromhere.madenets import doors_known
from samefromhere.nets import Net
from samefromhere.orders import in_any_order, order_fault, quiet_answers
from samefromhere.plans import told
from samefromhere.views import view_plan
from tests.helpers import (ANY_OBJECTS, HALF, LONE, R, S, Counting, as_tuples, ascending, faults, mix_plan, not_words,
                           random_net, ring)
from tests.test_eventruns import MARKED, N, greatest_plan, last_plan

TWICE = Net([1, 2], [(0, 1, "", ""), (0, 1, "", ""), (1, 0, "", "")])
NETS = [N, LONE, Net(["a", "b"], []), HALF, TWICE, Net([1, 2], [(0, 1, "", ""), (1, 0, "", "")]),
        Net(["a", "bb", "ccc"], [(0, 1, "x", 1), (2, 1, "y", 2)]), Net([3, 1, 2], [(0, 1, 0, 0), (1, 2, 0, 0), (0, 2, 0, 0)])]
NETS += [random_net(seed, most=3, roads=3) for seed in range(7)]


def first_letters(many):
    """Keeps the first letters taken, in order; puts two letters once."""
    return (lambda sign: ["new", sign, []], lambda state, out: [[1, state[1]], (2, out)] if state[0] == "new" else (),
            lambda state, into, letter: ["old", state[1], list(state[2] + ((into, letter),))[:many]],
            lambda state: [state[2]])


def adder():
    """Adds up what it takes: the order is all one."""
    def value(word):
        return sum(map(value, word)) + 1 if isinstance(word, tuple) else len(word) if isinstance(word, str) else word

    return (lambda sign: (value(sign), 1), lambda state, out: [state[0], value(out)] if state[1] else [],
            lambda state, into, letter: (state[0] + value(into) + letter, 0), lambda state: (state[0], ()))


def passer():
    """Passes a letter on until it has been passed on twice."""
    return (lambda sign: (0, (0, 0)), lambda state, out: [state[1]] if state[1] else [],
            lambda state, into, letter: (state[0] * 2 + letter[1], (letter[0] + 1, letter[1] + 1) if letter[0] < 1 else ()),
            lambda state: state[0])


PLANS = [first_letters(1), first_letters(9), adder(), passer()]


def all_outcomes(net, plan, in_turn):
    """The dict from answers to picks behind which they are told, all orders gone through by picks; None if there are
    too many orders."""
    found = {}
    todo = [()]
    runs = 0
    while todo:
        picks = todo.pop()
        runs += 1
        if runs > 300:
            return None
        events = count_events(net, plan, picks, in_turn)
        if events == 0:
            found.setdefault(as_tuples(quiet_run(net, plan, picks, in_turn)[0]), picks)
        todo.extend([picks + (pick,) for pick in range(events)])
    return found


def count_events(net, plan, picks, in_turn):
    """How many events can be behind these picks, told straight from points 117 and 118."""
    begin, put, take, _ = plan
    roads = net.roads()
    states = [None] * len(net)
    waiting = [[] for _ in roads]
    for pick in picks + (None,):
        events = [(None, place) for place in range(len(net)) if states[place] is None]
        for road in range(len(roads)):
            if states[roads[road][1]] is not None:
                events += [(road, at) for at in range(len(waiting[road]))][:1 if in_turn else None]
        if pick is None:
            return len(events)
        road, at = events[pick]
        place = at if road is None else roads[road][1]
        states[place] = as_tuples(begin(net.signs()[place])) if road is None else \
            as_tuples(take(states[place], roads[road][3], waiting[road].pop(at)))
        for number in range(len(roads)):
            if roads[number][0] == place:
                waiting[number] += as_tuples(list(put(states[place], roads[number][2])))


class TestOrders(unittest.TestCase):
    def test_all_orders_gone_through(self):
        met = set()
        gone = 0
        for net in NETS:
            for plan in PLANS + ([last_plan(), greatest_plan()] if net in (N, TWICE) else []):
                for in_turn in (True, False):
                    outcomes = all_outcomes(net, plan, in_turn)
                    answers = quiet_answers(net=net, plan=plan, in_turn=in_turn)
                    fault = order_fault(net=net, plan=plan, in_turn=in_turn)
                    self.assertEqual(fault is None, len(answers) == 1)
                    self.assertEqual(answers, ascending(answers))
                    self.assertIs(type(answers), list)
                    self.assertTrue(all(type(row) is tuple for row in answers))
                    if outcomes is not None:
                        self.assertEqual(answers, ascending(outcomes))
                        gone += 1
                    if fault is not None:
                        self.assertEqual([type(part) for part in (fault, *fault)], [tuple] * 3)
                        near, away = [as_tuples(quiet_run(net, plan, picks, in_turn)[0]) for picks in fault]
                        self.assertNotEqual(near, away)
                        self.assertIn(near, answers)
                        self.assertIn(away, answers)
                    met.add((len(answers) > 1, in_turn))
        self.assertEqual(len(met), 4)
        self.assertGreater(gone, 30)

    def test_picks_lead_to_quiet(self):
        """Nothing is left to be taken behind the picks that are told."""
        for net in (N, TWICE):
            for in_turn in (True, False):
                fault = order_fault(net, first_letters(9), in_turn)
                self.assertIsNotNone(fault)
                for picks in fault:
                    self.assertEqual(quiet_run(net, first_letters(9), picks, in_turn)[1], len(picks))

    def test_waiting_letters_in_their_order(self):
        """Two letters wait, in one order or the other, and nothing else tells both stands apart: place 3 passes them on,
        and arms place 5, by place 4, behind both; place 5 keeps the first letter that it takes when it is armed."""
        net = Net([0, 1, "z", "pass", "relay", "keep"], [(0, 3, "", ""), (1, 3, "", ""), (2, 3, "", ""), (3, 5, "on", "on"),
                                                         (3, 4, "go", ""), (4, 5, "", "go")])

        def put(state, out):
            if state[0] == "pass":
                return [state[2]] if state[2] in ({"on": (0, 1), "go": ("go",)}[out]) else []
            return [state[1]] if state[0] in (0, 1, "z", "relay") and state[1] != "cold" else []

        def take(state, into, letter):
            if state[0] == "pass":
                return "pass", state[1] + 1, letter if letter in (0, 1) else "go" if state[1] == 2 else ""
            if state[0] == "keep" and state[1] in ("cold", "armed"):
                return "keep", "armed" if into == "go" else "spoiled" if state[1] == "cold" else ("kept", letter)
            return state if state[0] == "keep" else (state[0], letter)

        plan = (lambda sign: (sign, 0, "") if sign == "pass" else (sign, sign if sign in (0, 1, "z") else "cold"), put, take,
                lambda state: state[1] if state[0] == "keep" else "")
        for in_turn in (True, False):
            self.assertEqual([row[5] for row in quiet_answers(net, plan, in_turn)], ["spoiled", ("kept", 0), ("kept", 1)])

    def test_any_order_is_more_than_in_turn(self):
        met = 0
        for net in NETS:
            for plan in PLANS:
                near, away = [quiet_answers(net, plan, in_turn) for in_turn in (True, False)]
                self.assertTrue(all(row in away for row in near))
                met += len(near) < len(away)
        self.assertGreater(met, 3)

    def test_the_same_each_time(self):
        for net in NETS:
            for in_turn in (True, False):
                self.assertEqual(order_fault(net, first_letters(1), in_turn), order_fault(net, list(first_letters(1)), in_turn))

    def test_asked_once_and_tell_at_each_quiet_stand(self):
        for net in NETS:
            for plan in PLANS:
                asked = []
                for call in (order_fault, quiet_answers):
                    counting = Counting(plan)
                    call(net, counting.functions, False)
                    self.assertEqual(len(counting.asked), len(set(counting.asked)))
                    asked.append({given for name, given in counting.asked if name == 3})
                self.assertTrue(asked[0])
                # An unlike answer ends nothing ahead of its time.
                self.assertEqual(asked[0], asked[1])

    def test_no_word(self):
        for thing in not_words():
            for at in range(4):
                plan = list(last_plan())
                plan[at] = (lambda *given: [thing]) if at == 1 else (lambda *given: thing)
                # What tell told is any object, but in the list of all that can be told.
                for call in (order_fault, quiet_answers) if at < 3 else (quiet_answers,):
                    with self.assertRaises(NoWord) as caught:
                        call(N, plan, True)
                    self.assertIs(caught.exception.thing if at != 1 else caught.exception.thing[0], thing)
            # Told where there is one quiet stand alone, too.
            faults(lambda told: quiet_answers(LONE, last_plan()[:3] + (lambda state: told,), False), NoWord, "thing",
                   [(thing, thing)])

    def test_any_object_told_alike(self):
        for thing in ANY_OBJECTS:
            for in_turn in (True, False):
                for net in (N, LONE):
                    self.assertIsNone(order_fault(net, last_plan()[:3] + (lambda state: thing,), in_turn))

    def test_any_object_told_otherwise(self):
        """Place 2 of N is told one thing behind some orders, and the other behind the others."""
        deep = [None]
        for _ in range(200):
            deep = [deep]
        pairs = [(None, ""), (True, False), (True, 1), (0, False), ([True], (1,)), ([None], [[None]]), ((None,), (None, None)),
                 ({}, []), ({}, {"a": None}), ({"a": 1}, {"b": 1}), ({"a": 1}, {"a": True}), ({1: 0}, {True: 0}),
                 ({(1,): None}, {(True,): None}), (LONE, R), (R, None), (len, max), ({"a": [R]}, {"a": [S]}),
                 (deep, [deep]), ([None, 1], {None: 1}), ("a", {"a": 1}), (0, {}), (1, [None])]
        for one, other in pairs + [(other, one) for one, other in pairs]:
            plan = last_plan()[:3] + (lambda state: one if state[0] == 5 else other,)
            for in_turn in (True, False):
                fault = order_fault(N, plan, in_turn)
                self.assertEqual([type(part) for part in (fault, *fault)], [tuple] * 3)
                near, away = [quiet_run(N, plan, picks, in_turn)[0] for picks in fault]
                self.assertEqual({id(near[2]), id(away[2])}, {id(one), id(other)})
                self.assertEqual(near[:2], away[:2])

    def test_lists_told_for_tuples(self):
        """Lists stand for tuples at every depth; what is equal is the same, though made anew."""
        def deep(row, end):
            for _ in range(200):
                end = row([end])
            return end

        pairs = [([], ()), ([1, "a"], (1, "a")), ([[None]], ([None],)), ((True, [{}]), [True, ({},)]),
                 ({"a": [None], "b": 1}, {"b": 1, "a": (None,)}), ({(): [[0]]}, {(): ((0,),)}),
                 ([R], (ring("abab"),)), (Net([[0]], []), Net([(0,)], [])), (deep(list, None), deep(tuple, None))]
        for one, other in pairs + [(other, one) for one, other in pairs]:
            plan = last_plan()[:3] + (lambda state: one if state[0] == 5 else other,)
            for in_turn in (True, False):
                self.assertIsNone(order_fault(N, plan, in_turn))

    def test_unlike_at_any_place(self):
        """Behind two places that take in any order, one beside the other, all places are compared."""
        net = Net([0, 1, 2, 2], [(0, 2, "", ""), (1, 2, "", ""), (0, 3, "", ""), (1, 3, "", "")])
        for at in range(2, 4):
            signs = [(int(place == at), sign) for place, sign in enumerate(net.signs())]
            marked = Net(signs, net.roads())
            plan = (lambda sign: ["new", sign[0], sign[1]], lambda state, out: [state[2]] if state[0] == "new" else [],
                    lambda state, into, letter: ["old", state[1], letter], lambda state: {state[1] and state[2]: None})
            for in_turn in (True, False):
                near, away = [quiet_run(marked, plan, picks, in_turn)[0] for picks in order_fault(marked, plan, in_turn)]
                self.assertEqual([one == other for one, other in zip(near, away)], [place != at for place in range(4)])

    def test_errors_in_order(self):
        for call in (order_fault, quiet_answers):
            for thing in ANY_OBJECTS + [(len,) * 3]:
                faults(lambda plan: call(N, plan, None), BadPlan, "thing", [(thing, thing)])
            faults(lambda in_turn: call(N, last_plan(), in_turn), BadTurn, "thing",
                   [(thing, thing) for thing in ANY_OBJECTS if type(thing) is not bool])

        def fail(state):
            raise KeyError

        for call in (order_fault, quiet_answers):
            with self.assertRaises(KeyError):
                call(LONE, last_plan()[:3] + (fail,), True)

    def test_limits(self):
        begin = time.time()
        net = Net(["a"] * 6, [(at, (at + 1) % 6, "", "") for at in range(6)])
        plan = (lambda sign: 1, lambda state, out: [0] if state == 1 else [], lambda state, into, letter: 2,
                lambda state: state)
        self.assertEqual(quiet_answers(net, plan, False), [(2,) * 6])
        # Each place takes three letters, each of them at once or late: over three thousand stands.
        star = Net(list(range(6)), [(0, at, "", "") for at in range(1, 6)])
        count = (lambda sign: (sign, 0), lambda state, out: [0, 1, 2] if state == (0, 0) else [],
                 lambda state, into, letter: (state[0], 1), lambda state: state[1])
        self.assertIsNone(order_fault(star, count, True))
        self.assertLess(time.time() - begin, 10)


class TestAnyOrder(unittest.TestCase):
    def test_tells_what_rounds_tell(self):
        pick = random.Random(5)
        for net in NETS + [R, S, MARKED, ring("aab")] + [random_net(seed, most=5, roads=8) for seed in range(20, 40)]:
            for plan in (view_plan(), mix_plan(7)):
                for rounds in range(4):
                    made = in_any_order(plan=plan, rounds=rounds)
                    self.assertIs(type(made), tuple)
                    wanted = (tuple(told(net, plan, rounds)), len(net) + rounds * len(net.roads()))
                    for length, in_turn in itertools.product((0, 5, 60), (True, False)):
                        picks = [pick.randrange(1000) for _ in range(length)]
                        self.assertEqual(quiet_run(doors_known(net), made, picks, in_turn), wanted)

    def test_in_all_orders(self):
        for net in (N, TWICE, HALF, Net(["a", "b"], [(0, 1, "", ""), (0, 0, "", "")])):
            for rounds in (1, 2):
                for in_turn in (True, False):
                    made = in_any_order(mix_plan()[:3] + (lambda state: state,), rounds)
                    self.assertIsNone(order_fault(doors_known(net), made, in_turn))

    def test_late_letters(self):
        """One who hears nothing is rounds ahead at once; its letters come in any order."""
        net = doors_known(Net(["a", "b", "c"], [(0, 2, "x", 1), (1, 2, "y", 2)]))
        plan = (lambda sign: [sign], lambda state, out: [out, state], lambda state, heard: [state[0], *heard],
                lambda state: [state])
        wanted = told(Net(["a", "b", "c"], [(0, 2, "x", 1), (1, 2, "y", 2)]), plan, 3)
        for picks in itertools.product(range(6), repeat=5):
            self.assertEqual(list(quiet_run(net, in_any_order(plan, 3), (0, 0, 0) + picks, False)[0]), wanted)

    def test_words_of_lists(self):
        plan = (lambda sign: [sign, []], lambda state, out: [[out]], lambda state, heard: [state[0], list(heard)],
                lambda state: {"told": state})
        net = Net([["a"]], [(0, 0, ["o"], ["i"])])
        counting = Counting(plan)
        self.assertEqual(quiet_run(doors_known(net), in_any_order(counting.functions, 2), [], True)[0],
                         tuple(told(net, plan, 2)))
        for _, given in counting.asked:
            self.assertEqual(given, as_tuples(given))

    def test_errors(self):
        for thing in ANY_OBJECTS + [(len,) * 3]:
            faults(lambda plan: in_any_order(plan, None), BadPlan, "thing", [(thing, thing)])
            if type(thing) is not int or thing < 0:
                faults(lambda rounds: in_any_order(mix_plan(), rounds), BadNumber, "thing", [(thing, thing)])
        for at in range(3):
            for thing in (None, True, {}, [None]):
                plan = list(mix_plan())
                plan[at] = lambda *given: thing
                faults(lambda told: quiet_run(doors_known(TWICE), in_any_order(plan, 2), [], True), NoWord, "thing",
                       [(thing, thing)])

    def test_what_was_passed_is_changed(self):
        plan = list(mix_plan())
        made = in_any_order(plan, 2)
        plan.clear()
        self.assertEqual(list(quiet_run(doors_known(N), made, [], True)[0]), told(N, mix_plan(), 2))

    def test_limits(self):
        net = Net(["a"] * 6, [(at % 6, (at * 5 + 1) % 6, at % 3, at % 2) for at in range(10)])
        for plan in (view_plan(), mix_plan()):
            got = quiet_run(doors_known(net), in_any_order(plan, 4), [10 ** 8 + 7 * at for at in range(46)], False)
            self.assertEqual(got, (tuple(told(net, plan, 4)), 46))


if __name__ == "__main__":
    unittest.main()
