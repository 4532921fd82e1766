"""Point 123: steady plans with few states, from all beginnings."""

import itertools
import random
import time
import unittest

from samefromhere.beginnings import steady_fault, steady_rounds
from samefromhere.errors import BadAnswers, BadPlan, BadRight, BadWords, NoState, NoWord
from samefromhere.nets import Net
from samefromhere.steadyplans import answers_from, states_behind
from samefromhere.wishes import first_choice
from samefromhere.written import written
from tests.helpers import (ANY_OBJECTS, HALF, LONE, R, S, Counting, as_lists, as_tuples, faults, not_words, random_net, ring)
from tests.test_wishes import asked_once

PAIR = ring("ab")
CHAIN = Net(["a", "b", "b", "b"], [(0, 1, 0, 0), (1, 2, 0, 0), (2, 3, 0, 0)])
NETS = [LONE, HALF, PAIR, ring("aa"), Net(["a", "b"], []), S, CHAIN, Net(["a", "b", "b"], [(0, 1, 0, 0), (1, 2, 0, 0)])]
NETS += [random_net(seed, most=3, roads=4) for seed in range(10)]


def value(word):
    return sum(map(value, word)) * 3 + 1 if isinstance(word, tuple) else len(word) if isinstance(word, str) else word


def table_plan(seed, words):
    """Goes from state to state as by chance."""
    def hear(sign, state, heard):
        return random.Random(str((seed, sign, state, heard))).choice(words)

    return (lambda sign, state, out: state, hear, lambda sign, state: [sign, state])


def from_the_first(words):
    """Who has the sign "a" takes the first word, all others what they hear, if it is the first word; else the last."""
    def hear(sign, state, heard):
        first = as_tuples(words[0])
        if sign == "a" or any(letter == first for _, letter in heard):
            return words[0]
        return words[-1] if heard else state

    return (lambda sign, state, out: state, hear, lambda sign, state: state)


def cases():
    for seed, net in enumerate(NETS):
        for words in ([0], [0, 1], ["x", (1, ()), 5]):
            plan = table_plan(seed, words)
            answers = [[sign, word] for sign in dict.fromkeys(net.signs()) for word in words]
            yield net, answers[:-1] or answers, lambda index, told: True, plan, words
            yield net, answers, lambda index, told: len(set(told)) > 1 or told[0] == told[-1], plan, words
            yield net, answers, lambda index, told: random.Random(str(told)).random() < 0.8, plan, words
            yield net, words, lambda index, told: told[0] == as_tuples(words[0]), from_the_first(words), words
            yield net, words, lambda index, told: set(told) == {as_tuples(words[0])}, from_the_first(words), words


def is_good(net, answers, right, plan, begun):
    row = as_tuples(answers_from(net, plan, begun, 0))
    return all(answer in as_tuples(answers) for answer in row) and bool(right(0, row))


def slow_rounds(net, answers, right, plan, words):
    """All beginnings gone through, each for as many rounds as there are rows of states, and once more."""
    rows = list(itertools.product(as_tuples(words), repeat=len(net)))
    later = {row: tuple(states_behind(net, plan, row, 1)) for row in rows}
    good = {row: is_good(net, answers, right, plan, row) for row in rows}
    most = 0
    for row in rows:
        spot = row
        for done in range(2 * len(rows)):
            if not good[spot]:
                most = max(most, done + 1)
            spot = later[spot]
    return None if most > len(rows) else most


class TestSteadyRounds(unittest.TestCase):
    def test_all_beginnings_gone_through(self):
        met = set()
        for net, answers, right, plan, words in cases():
            told = steady_rounds(net=net, answers=answers, right=right, plan=plan, words=words)
            self.assertEqual(told, slow_rounds(net, answers, right, plan, words))
            met.add(told)
            fault = steady_fault(net=net, answers=answers, right=right, plan=plan, words=words)
            self.assertEqual(told is None, fault is not None)
            if fault is not None:
                begun, many = fault
                self.assertEqual([type(fault), type(begun)], [tuple, tuple])
                self.assertGreaterEqual(many, 1)
                self.assertTrue(all(state in as_tuples(words) for state in begun))
                self.assertEqual(begun, as_tuples(begun))
                self.assertFalse(is_good(net, answers, right, plan, begun))
                self.assertEqual(tuple(states_behind(net, plan, begun, many)), begun)
            given = (net, as_lists(answers), right, list(plan), tuple(as_lists(words)))
            self.assertEqual([steady_rounds(*given), steady_fault(*given)], [told, fault])
        self.assertLessEqual({None, 0, 1, 2, 3}, met)

    def test_edges(self):
        def always(index, told):
            return True

        stay = (lambda sign, state, out: 0, lambda sign, state, heard: state, lambda sign, state: state)
        self.assertEqual(steady_rounds(R, [0, 1], always, stay, [0, 1]), 0)
        self.assertIsNone(steady_fault(R, [0, 1], always, stay, [0, 1]))
        self.assertIsNone(steady_rounds(R, [0], always, stay, [0, 1]))
        self.assertEqual(steady_fault(LONE, [0], always, stay, [0, ["w"]]), ((("w",),), 1))
        turn = (lambda sign, state, out: 0, lambda sign, state, heard: (state + 1) % 5, lambda sign, state: state)
        self.assertEqual(steady_fault(LONE, [0, 1, 2, 3], always, turn, [0, 1, 2, 3, 4]), ((4,), 5))
        for thing in (1, "yes", [0], 0, "", None):
            self.assertEqual(steady_rounds(LONE, [0], lambda index, told: thing, stay, [0]), 0 if thing else None)

    def test_wishes_that_no_plan_can_do(self):
        """What no plan does for ever no steady plan does from all beginnings; what one does is within reach."""
        met = {True: 0, False: 0}
        for seed in range(30):
            net = NETS[seed % len(NETS)]
            words = [0, 1, 2][:2 + seed % 2]
            for word in ("head", ("colours", 2), "names"):
                answers, right = written([net], word)
                plan = table_plan(seed, words)[:2] + (lambda sign, state: state % len(answers),)
                can_be = first_choice([net], answers, right, None) is not None
                told = steady_rounds(net, answers, right, plan, words)
                if not can_be:
                    self.assertIsNone(told)
                    self.assertIsNotNone(steady_fault(net, answers, right, plan, words))
                met[can_be] += 1
        self.assertGreater(min(met.values()), 10)

    def test_any_answers(self):
        for thing in ANY_OBJECTS:
            plan = (lambda sign, state, out: 0, lambda sign, state, heard: 0, lambda sign, state: thing)
            told = steady_rounds(S, [5, (0, 0)], lambda index, row: True, plan, [0])
            self.assertEqual(told, 0 if thing in (5, (0, 0)) else None)

    def test_asked_once(self):
        for net, answers, right, plan, words in list(cases())[::5]:
            for call in (steady_rounds, steady_fault):
                counting = Counting(plan)
                watched, asked = asked_once(right)
                call(net, answers, watched, counting.functions, words)
                self.assertEqual(len(counting.asked), len(set(counting.asked)))
                self.assertEqual(len(asked), len(set(asked)))
                self.assertTrue(all(index == 0 and type(row) is tuple for index, row in asked))

    def test_errors_in_order(self):
        for call in (steady_rounds, steady_fault):
            for thing in ANY_OBJECTS:
                if not isinstance(thing, (list, tuple)) or len(thing) == 0:
                    faults(lambda told: call(S, told, None, None, None), BadAnswers, "index", [(thing, 0)])
                    faults(lambda told: call(S, [0], len, (len,) * 3, told), BadWords, "index", [(thing, 0)])
                if not callable(thing):
                    faults(lambda told: call(S, [0], told, None, None), BadRight, "thing", [(thing, thing)])
                faults(lambda told: call(S, [0], len, told, None), BadPlan, "thing", [(thing, thing)])
            for thing in not_words() + [7, ("w",), ["w"]]:
                faults(lambda told: call(S, told, None, None, None), BadAnswers, "index", [([7, ("w",), thing, thing], 2)])
                faults(lambda told: call(S, [0], len, (len,) * 3, told), BadWords, "index", [((7, ["w"], thing), 2)])
            four = (len,) * 4
            faults(lambda told: call(S, [0], len, told, None), BadPlan, "thing", [(four, four)])

    def test_no_word_and_no_state(self):
        def always(index, told):
            return True

        for call in (steady_rounds, steady_fault):
            for thing in not_words():
                for at in range(2):
                    plan = list(from_the_first([0, 1]))
                    plan[at] = lambda *given: thing
                    faults(lambda told: call(PAIR, [0], always, plan, [0, 1]), NoWord, "thing", [(thing, thing)])
            for thing in (2, "0", (0,), [1], [[["x"]]], -1):
                plan = (lambda sign, state, out: 0, lambda sign, state, heard: thing if state == 1 else 0, len)
                with self.assertRaises(NoState) as caught:
                    call(PAIR, [0], always, plan, [0, 1])
                self.assertIs(caught.exception.thing, thing)
            plan = (lambda sign, state, out: 0, lambda sign, state, heard: [["s"]], lambda sign, state: 0)
            self.assertIn(call(PAIR, [0], always, plan, [("s",), [["s"]]]), (0, None))

    def test_errors_go_through(self):
        def fail(*given):
            raise KeyError

        for at in range(3):
            plan = list(from_the_first([0, 1]))
            plan[at] = fail
            with self.assertRaises(KeyError):
                steady_rounds(PAIR, [0, 1], lambda index, told: True, plan, [0, 1])
        with self.assertRaises(KeyError):
            steady_fault(PAIR, [0, 1], fail, from_the_first([0, 1]), [0, 1])

    def test_limits(self):
        begin = time.time()
        pick = random.Random(3)
        net = Net(["a"] + ["b"] * 5, [(pick.randrange(6), pick.randrange(6), 0, 0) for _ in range(20)])
        words = [0, "x", ("y",)]
        for plan in (from_the_first(words), table_plan(4, words)):
            given = (net, words, lambda index, told: told[0] == 0, plan, words)
            self.assertEqual(steady_rounds(*given) is None, steady_fault(*given) is not None)
        chain = Net(["a"] + ["b"] * 5, [(at, at + 1, 0, 0) for at in range(5)])
        given = (chain, words, lambda index, told: set(told) == {0}, from_the_first(words), words)
        self.assertEqual(steady_rounds(*given), 6)
        many = list(range(3000))
        turn = (len, lambda sign, state, heard: max(state - 1, 0), lambda sign, state: state)
        self.assertEqual(steady_rounds(LONE, [0], lambda index, told: True, turn, many), 2999)
        self.assertLess(time.time() - begin, 10)


if __name__ == "__main__":
    unittest.main()
