"""Points 117, 118: event plans and their runs."""

import random
import time
import unittest

from samefromhere.errors import BadPicks, BadPlan, BadTurn, NoWord
from samefromhere.eventruns import asleep_or_waiting, quiet_run
from samefromhere.nets import Net, marks
from tests.helpers import ANY_OBJECTS, LONE, PATH, R, S, Counting, as_tuples, faults, not_words, random_net, ring, word_like

N = Net([5, 3, 4], [(0, 2, "", ""), (1, 2, "", "")])
MARKED = Net(["a", "b", "c"], [(0, 1, "x", 1), (0, 1, "w", 2), (0, 1, "x", 1), (0, 2, "x", 3), (1, 2, "y", 4), (2, 2, 0, 5),
                               (2, 0, 0, 6)])
NETS = [N, MARKED, LONE, S, R, Net(["a", "a"], []), PATH] + [random_net(seed, most=4, roads=6) for seed in range(25)]


def last_plan():
    """Begins with the sign, puts it once; the state becomes the last letter taken."""
    return (lambda sign: [sign, 1], lambda state, out: [state[0]] if state[1] else [],
            lambda state, into, letter: [letter, 0], lambda state: state[0])


def greatest_plan():
    return (lambda sign: [sign, 1], lambda state, out: [state[0]] if state[1] else [],
            lambda state, into, letter: [max(letter, state[0]), 0], lambda state: state[0])


def row_plan(most=2):
    """Keeps all that is taken, in order; puts several letters, of which each counts how often it was passed on."""
    def put(state, out):
        if state[1] == ():
            return [(0, out, "first"), [0, out, "second"]]
        into, letter = state[1][-1]
        return [(letter[0] + 1, out, "on")] if letter[0] < most - 1 else ()

    return (lambda sign: [sign, []], put, lambda state, into, letter: [state[0], [*state[1], [into, letter]]],
            lambda state: {"told": state})


def short_plan():
    """Few letters: one when woken, none behind."""
    return (lambda sign: (sign, ()), lambda state, out: [out] if state[1] == () else [],
            lambda state, into, letter: (state[0], state[1] + ((into, letter),)), lambda state: state)


PLANS = [row_plan(), row_plan(1), short_plan()]


def slow_run(net, plan, picks, in_turn, to_quiet):
    """(states, waiting, events), told straight from points 117 and 118."""
    begin, put, take, _ = plan
    roads = net.roads()
    states = [None] * len(net)
    waiting = [[] for _ in roads]
    done = 0
    while to_quiet or done < len(picks):
        events = [("wake", place) for place in range(len(net)) if states[place] is None]
        for road in range(len(roads)):
            if states[roads[road][1]] is not None:
                events += [(road, at) for at in range(len(waiting[road]))][:1 if in_turn else None]
        if not events:
            break
        kind, at = events[picks[done] % len(events) if done < len(picks) else 0]
        if kind == "wake":
            place = at
            states[place] = as_tuples(begin(net.signs()[place]))
        else:
            place = roads[kind][1]
            states[place] = as_tuples(take(states[place], roads[kind][3], waiting[kind].pop(at)))
        for road in range(len(roads)):
            if roads[road][0] == place:
                waiting[road] += as_tuples(list(put(states[place], roads[road][2])))
        done += 1
    return states, [len(letters) for letters in waiting], done


def cases():
    pick = random.Random(2)
    for net in NETS:
        for plan in PLANS:
            if len(net.roads()) <= 5 or plan is PLANS[2]:
                for in_turn in (True, False):
                    for length in (0, 3, 20):
                        yield net, plan, [pick.randrange(10 ** 9) for _ in range(length)], in_turn


class TestRuns(unittest.TestCase):
    def test_quiet_run(self):
        met = set()
        for net, plan, picks, in_turn in cases():
            states, waiting, done = slow_run(net, plan, picks, in_turn, True)
            told = quiet_run(net=net, plan=plan, picks=picks, in_turn=in_turn)
            self.assertEqual(told, (tuple(plan[3](state) for state in states), done))
            self.assertEqual([type(told), type(told[0])], [tuple, tuple])
            self.assertFalse(any(waiting))
            self.assertEqual(quiet_run(net, list(plan), tuple(picks), in_turn), told)
            met.add(done)
        self.assertGreater(len(met), 10)

    def test_asleep_or_waiting(self):
        met = set()
        for net, plan, picks, in_turn in cases():
            for length in (0, 1, 2, 5, 9, 20):
                states, waiting, _ = slow_run(net, plan, picks[:length], in_turn, False)
                told = asleep_or_waiting(net=net, plan=plan, picks=picks[:length], in_turn=in_turn)
                self.assertEqual(told, (states.count(None), tuple(waiting)))
                self.assertEqual([type(told), type(told[1])], [tuple, tuple])
                met.add((told[0] > 0, sum(told[1]) > 1))
        self.assertEqual(len(met), 4)

    def test_order_of_events(self):
        """Who sleeps comes first; then letters by roads, those that wait longest first."""
        net = Net(["a", "b"], [(0, 1, "x", "p"), (0, 1, "y", "q")])
        taken = []

        def take(state, into, letter):
            taken.append((into, letter))
            return state

        plan = (lambda sign: sign, lambda state, out: [out + "1", out + "2"] if state == "a" else [], take, len)
        for picks, in_turn, wanted in [
                ([], True, [("p", "x1"), ("p", "x2"), ("q", "y1"), ("q", "y2")]),
                ([0, 0, 1, 1], True, [("q", "y1"), ("q", "y2"), ("p", "x1"), ("p", "x2")]),
                ([0, 0, 3, 1], False, [("q", "y2"), ("p", "x2"), ("p", "x1"), ("q", "y1")]),
                ([2, 4, 9], False, [("p", "x2"), ("p", "x1"), ("q", "y1"), ("q", "y2")]),
                # The second place wakes first; then there is but one event, whatever the pick.
                ([1, 7, 6], False, [("q", "y1"), ("p", "x1"), ("p", "x2"), ("q", "y2")])]:
            taken.clear()
            self.assertEqual(quiet_run(net, plan, picks, in_turn)[1], 6)
            self.assertEqual(taken, wanted)

    def test_letters_wait_on_each_road_out(self):
        waiting = asleep_or_waiting(MARKED, short_plan(), [0], True)
        self.assertEqual(waiting, (2, (1, 1, 1, 1, 0, 0, 0)))
        self.assertEqual(asleep_or_waiting(MARKED, short_plan(), [2], True), (2, (0, 0, 0, 0, 0, 1, 1)))
        # Behind the letter that it took from itself the last place puts nothing.
        self.assertEqual(asleep_or_waiting(MARKED, short_plan(), [2, 2], True), (2, (0, 0, 0, 0, 0, 1, 0)))

    def test_edges(self):
        self.assertEqual(quiet_run(LONE, short_plan(), [], True), ((("a", ()),), 1))
        self.assertEqual(asleep_or_waiting(LONE, short_plan(), [], False), (1, ()))
        self.assertEqual(asleep_or_waiting(LONE, short_plan(), [5] * 9, False), (0, ()))
        self.assertEqual(quiet_run(Net(["a", "b"], []), short_plan(), [1, 1, 1], True), ((("a", ()), ("b", ())), 2))

    def test_answers_as_they_are(self):
        thing = [None, {"a": True}]
        told = quiet_run(S, short_plan()[:3] + (lambda state: thing,), [], True)[0]
        self.assertTrue(all(answer is thing for answer in told))

        def never(state):
            raise AssertionError

        self.assertEqual(asleep_or_waiting(S, short_plan()[:3] + (never,), [], True), (3, (0, 0)))

    def test_asked_once_with_tuples(self):
        for net, plan, picks, in_turn in cases():
            counting = Counting(plan)
            quiet_run(net, counting.functions, picks, in_turn)
            self.assertEqual(len(counting.asked), len(set(counting.asked)))
        counting = Counting(row_plan())
        quiet_run(Net(["a"], [(0, 0, ["o"], ["i"])]), counting.functions, [], True)
        self.assertEqual(counting.asked[1], (1, (("a", ()), ("o",))))
        self.assertEqual(counting.asked[2], (2, (("a", ()), ("i",), (0, ("o",), "first"))))

    def test_put_is_asked_for_the_marks_of_the_point(self):
        counting = Counting(short_plan())
        quiet_run(MARKED, counting.functions, [], True)
        for state, out in [given for name, given in counting.asked if name == 1]:
            self.assertIn(out, marks(MARKED, "abc".index(state[0])))


class TestErrors(unittest.TestCase):
    def test_in_order(self):
        for call in (quiet_run, asleep_or_waiting):
            for thing in ANY_OBJECTS + [(len,) * 3, (len,) * 5, (len, len, None, len)]:
                faults(lambda plan: call(N, plan, None, None), BadPlan, "thing", [(thing, thing)])
            pairs = [(thing, 0) for thing in ANY_OBJECTS if not isinstance(thing, (list, tuple))]
            for thing in ANY_OBJECTS:
                if type(thing) is not int or thing < 0:
                    pairs += [([thing], 0), ([3, 0, thing, thing], 2), ((0,) * 9 + (thing,), 9)]
            faults(lambda picks: call(N, last_plan(), picks, None), BadPicks, "index", pairs)
            faults(lambda in_turn: call(N, last_plan(), [], in_turn), BadTurn, "thing",
                   [(thing, thing) for thing in ANY_OBJECTS if type(thing) is not bool])

    def test_no_word(self):
        for thing in not_words():
            for at in (0, 2):
                plan = list(last_plan())
                plan[at] = lambda *given: thing
                faults(lambda told: quiet_run(N, plan, [], True), NoWord, "thing", [(thing, thing)])
                faults(lambda told: asleep_or_waiting(N, plan, [0] * 9, False), NoWord, "thing", [(thing, thing)])
        for thing in ANY_OBJECTS + [[None], ([0], True), [[[{}]]], "ab"]:
            plan = (lambda sign: sign, lambda state, out: thing, lambda state, into, letter: state, len)
            if isinstance(thing, (list, tuple)) and word_like(thing):
                self.assertEqual(asleep_or_waiting(N, plan, [0], True), (2, (len(thing), 0)))
            else:
                faults(lambda told: asleep_or_waiting(N, plan, [0], True), NoWord, "thing", [(thing, thing)])
                self.assertEqual(asleep_or_waiting(N, plan, [2], True), (2, (0, 0)))

    def test_which_no_word_comes_first(self):
        """At the first event with one; of what is put the first by marks."""
        asked = []

        def put(state, out):
            asked.append(out)
            return {"put": (state, out)} if out != "w" else []

        plan = (lambda sign: {} if sign == "b" else sign, put, len, len)
        with self.assertRaises(NoWord) as caught:
            quiet_run(MARKED, plan, [], True)
        self.assertEqual(caught.exception.thing, {"put": ("a", "x")})
        self.assertEqual(asked, ["w", "x"])
        with self.assertRaises(NoWord) as caught:
            quiet_run(MARKED, plan, [1], True)
        self.assertEqual(caught.exception.thing, {})
        self.assertEqual(asleep_or_waiting(MARKED, plan, [], True), (3, (0,) * 7))

    def test_errors_go_through(self):
        def fail(*given):
            raise KeyError

        for at in range(4):
            plan = list(last_plan())
            plan[at] = fail
            with self.assertRaises(KeyError):
                quiet_run(N, plan, [], True)

    def test_limits(self):
        begin = time.time()
        net = ring(["a"] + ["b"] * 5)
        plan = (lambda sign: (sign, 80 if sign == "a" else 0, 0), lambda state, out: [state[1]] * (state[1] > 0),
                lambda state, into, letter: (state[0], letter - 1, state[2] + letter), lambda state: state[2])
        self.assertEqual(quiet_run(net, plan, [], True)[1], 6 + 80)
        many = (lambda sign: (sign, 1), lambda state, out: list(range(48)) if state[1] else [],
                lambda state, into, letter: (state[0], 0), len)
        wide = Net(["a"] * 6, [(at % 6, (at * 2 + 1) % 6, at, 0) for at in range(10)])
        self.assertEqual(quiet_run(wide, many, [10 ** 8 + at for at in range(500)], False)[1], 6 + 480)
        self.assertLess(time.time() - begin, 5)


if __name__ == "__main__":
    unittest.main()
