"""Points 6, 10: plans."""

import unittest

from samefromhere.errors import BadNumber, BadPlan, NoWord
from samefromhere.nets import Net
from samefromhere.plans import states, told
from samefromhere.views import view_plan
from tests.helpers import ANY_OBJECTS, R, S, Counting, as_lists, ascending, mix_plan, not_words, ring, samples


def slow_states(net, plan, rounds):
    begin, say, hear, _ = plan
    stand = [begin(sign) for sign in net.signs()]
    for _ in range(rounds):
        heard = [ascending([(into, say(stand[one], out)) for one, other, out, into in net.roads() if other == place])
                 for place in range(len(net))]
        stand = [hear(state, tuple(heard[place])) for place, state in enumerate(stand)]
    return stand


def adder():
    """States are numbers: what is heard is added up."""
    return (lambda sign: len(sign), lambda state, out: state, lambda state, heard: sum(x for _, x in heard) + state,
            lambda state: [state])


class TestRuns(unittest.TestCase):
    def test_rounds(self):
        net = ring(["", "a", "bb"])
        self.assertEqual(states(net=net, plan=adder(), rounds=0), [0, 1, 2])
        self.assertEqual(states(net, adder(), 1), [2, 1, 3])
        self.assertEqual(states(net, list(adder()), 2), [5, 3, 4])
        self.assertEqual(told(net=net, plan=adder(), rounds=2), [[5], [3], [4]])

    def test_against_a_slow_run(self):
        for net in samples(12):
            for rounds in range(4):
                plan = mix_plan()
                stand = states(net, plan, rounds)
                self.assertEqual(stand, slow_states(net, plan, rounds))
                self.assertEqual(told(net, plan, rounds), [{"told": state} for state in stand])

    def test_what_is_heard(self):
        heard_rows = []

        def hear(state, heard):
            heard_rows.append((state, heard))
            return [state, [heard]]

        signs = ["r", "s", ("t",)]
        roads = [(1, 0, "b", 2), (1, 0, "a", 2), (1, 0, "a", 2), (0, 0, 7, ()), (2, 0, "", "x"), (2, 0, "", 2)]
        plan = (lambda sign: [sign, []], lambda state, out: [out, state], hear, lambda state: state)
        net = Net(signs, roads)
        begun = [("r", ()), ("s", ()), (("t",), ())]
        self.assertEqual(states(net, plan, 0), begun)
        first = ((2, ("a", begun[1])), (2, ("a", begun[1])), (2, ("b", begun[1])), (2, ("", begun[2])),
                 ("x", ("", begun[2])), ((), (7, begun[0])))
        first = tuple(sorted(first[:4], key=lambda pair: pair[1])) + first[4:]
        self.assertEqual(states(net, plan, 1)[0], (begun[0], (first,)))
        self.assertEqual(heard_rows[0], (begun[0], first))
        self.assertEqual(heard_rows[1], (begun[1], ()))

    def test_answers_are_told_as_they_are(self):
        thing = [True, {"a": [None]}]
        plan = adder()[:3] + (lambda state: thing,)
        for answer in told(S, plan, 1):
            self.assertIs(answer, thing)
        self.assertEqual(told(S, adder()[:3] + (lambda state: None,), 1), [None] * 3)

    def test_told_lists_are_new(self):
        first = states(R, view_plan(), 1)
        first.clear()
        self.assertEqual(len(states(R, view_plan(), 1)), 4)


class TestAsked(unittest.TestCase):
    def test_once_for_equal_arguments(self):
        for net in samples(12):
            for plan in (view_plan(), mix_plan(2)):
                counting = Counting(plan)
                told(net, counting.functions, 3)
                self.assertEqual(len(counting.asked), len(set(counting.asked)))

    def test_states_does_not_ask_tell(self):
        def never(state):
            raise AssertionError

        self.assertEqual(states(S, adder()[:3] + (never,), 1), [1, 2, 2])

    def test_say_is_asked_for_the_marks_of_the_point(self):
        counting = Counting((lambda sign: sign, lambda state, out: 0, lambda state, heard: state, lambda state: 0))
        told(Net(["a", "b"], [(0, 1, "x", 1), (0, 1, "x", 2), (0, 0, "y", 1), (1, 0, "z", 1)]), counting.functions, 2)
        said = [given for name, given in counting.asked if name == 1]
        self.assertEqual(said, [("a", "x"), ("a", "y"), ("b", "z")])

    def test_arguments_are_tuples(self):
        counting = Counting((lambda sign: [sign], lambda state, out: [[state]], lambda state, heard: list(heard),
                             lambda state: state))
        told(Net([["a"]], [(0, 0, ["o"], ["i"])]), counting.functions, 1)
        state = (("a",),)
        heard = ((("i",), ((state,),)),)
        self.assertEqual(counting.asked, [(0, (("a",),)), (1, (state, ("o",))), (2, (state, heard)), (3, (heard,))])

    def test_errors_go_through(self):
        class Own(Exception):
            pass

        def fail(*given):
            raise Own

        for at in range(4):
            plan = list(adder())
            plan[at] = fail
            with self.assertRaises(Own):
                told(R, plan, 1)


class TestErrors(unittest.TestCase):
    def test_bad_plan(self):
        good = adder()
        for function in (states, told):
            for thing in ANY_OBJECTS + [good[:3], good + good[:1]]:
                with self.assertRaises(BadPlan) as caught:
                    function(R, thing, None)
                self.assertIs(caught.exception.thing, thing)
            for thing in ANY_OBJECTS:
                if not callable(thing):
                    for at in range(4):
                        plan = good[:at] + (thing,) + good[at + 1:]
                        with self.assertRaises(BadPlan) as caught:
                            function(R, plan, -1)
                        self.assertIs(caught.exception.thing, plan)

    def test_bad_number(self):
        for function in (states, told):
            for thing in ANY_OBJECTS:
                if isinstance(thing, bool) or not isinstance(thing, int) or thing < 0:
                    with self.assertRaises(BadNumber) as caught:
                        function(R, adder(), thing)
                    self.assertIs(caught.exception.thing, thing)

    def test_no_word(self):
        for thing in not_words():
            for at in range(3):
                plan = list(adder())
                plan[at] = lambda *given: thing
                with self.assertRaises(NoWord) as caught:
                    states(R, plan, 1)
                self.assertIs(caught.exception.thing, thing)

    def test_which_no_word_comes_first(self):
        def wrong(kind, *marks):
            def told_by(*given):
                return {kind: given} if given in marks else given[0]
            return told_by

        net = Net(["a", "b"], [(0, 1, "x", 0), (0, 1, "w", 0), (1, 0, "y", 0)])
        both = (wrong("begin", ("b",)), wrong("say", ("a", "x")), wrong("hear"), len)
        with self.assertRaises(NoWord) as caught:
            states(net, both, 5)
        self.assertEqual(caught.exception.thing, {"begin": ("b",)})
        plan = (wrong("begin"), wrong("say", ("a", "x"), ("a", "w"), ("b", "y")), wrong("hear"), len)
        with self.assertRaises(NoWord) as caught:
            states(net, plan, 5)
        self.assertEqual(caught.exception.thing, {"say": ("a", "w")})
        hear_all = (lambda sign: sign, wrong("say", ("b", "y")), lambda state, heard: {"hear": state}, len)
        with self.assertRaises(NoWord) as caught:
            states(net, hear_all, 1)
        self.assertEqual(caught.exception.thing, {"say": ("b", "y")})
        hear_all = (lambda sign: sign, lambda state, out: 0, lambda state, heard: {"hear": state}, len)
        with self.assertRaises(NoWord) as caught:
            states(net, hear_all, 1)
        self.assertEqual(caught.exception.thing, {"hear": "a"})
        self.assertEqual(states(net, hear_all, 0), ["a", "b"])

    def test_plan_and_rounds_are_wrong(self):
        with self.assertRaises(BadPlan):
            told(R, None, None)


class TestLists(unittest.TestCase):
    def test_lists_for_tuples_are_one_state(self):
        turn = [as_lists, lambda word: word]
        plan = (lambda sign: turn[len(sign) % 2](("q", ("r",))), lambda state, out: ["l"], lambda state, heard: state,
                lambda state: state)
        counting = Counting(plan)
        self.assertEqual(told(Net(["a", "bb"], [(0, 1, 0, 0), (1, 0, 0, 0)]), counting.functions, 1),
                         [("q", ("r",))] * 2)
        self.assertEqual([name for name, _ in counting.asked], [0, 0, 1, 2, 3])
