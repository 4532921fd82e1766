"""Points 121, 122, 124: steady plans, from any beginning."""

import random
import time
import unittest

from samefromhere.errors import BadBegun, BadNumber, BadPlan, NoWord
from samefromhere.kinds import kinds_for_ever
from samefromhere.nets import Net, marks
from samefromhere.plans import told
from samefromhere.steadyplans import answers_from, states_behind, steady
from samefromhere.views import view, view_plan
from samefromhere.wishes import first_choice
from samefromhere.wishplans import plan_for
from samefromhere.written import written
from tests.helpers import (ANY_OBJECTS, HALF, LONE, ODD_WORDS, R, S, Counting, as_lists, as_tuples, ascending, faults,
                           mix_plan, not_words, random_net, ring)
from tests.test_eventruns import MARKED

NETS = [R, S, LONE, HALF, MARKED, Net(["a", "b"], []), ring("aab")] + [random_net(seed, most=5, roads=8) for seed in range(15)]


def value(word):
    return sum(map(value, word)) * 3 + 1 if isinstance(word, tuple) else len(word) if isinstance(word, str) else word


def mix_steady(modulus=7):
    return (lambda sign, state, out: [(value(sign) + value(state) + value(out)) % modulus],
            lambda sign, state, heard: [sign, (value(state) + value(heard)) % modulus],
            lambda sign, state: {"told": (sign, state)})


def slow_states(net, plan, begun, rounds):
    say, hear, _ = plan
    stand = [as_tuples(state) for state in begun]
    for _ in range(rounds):
        heard = [tuple(ascending((into, as_tuples(say(net.signs()[one], stand[one], out)))
                                 for one, other, out, into in net.roads() if other == place)) for place in range(len(net))]
        stand = [as_tuples(hear(sign, state, row)) for sign, state, row in zip(net.signs(), stand, heard)]
    return stand


def beginnings(net, rounds, seed):
    """Lists of first states: words by chance, and such that look like what steady keeps."""
    pick = random.Random(seed)
    strange = random_net(seed + 99, most=3)
    found = [[pick.choice(ODD_WORDS) for _ in range(len(net))]]
    for _ in range(3):
        row = []
        for place in range(len(net)):
            kept = [pick.choice([(done, sign, ()), view(net, pick.randrange(len(net)), done), (done + 1, sign, ()),
                                 view(strange, 0, done), 0, (done, sign, ((0, 0, (done, sign, ())),)),
                                 (done, sign, [("", "")])])
                    for done in range(1, rounds + 1) for sign in [net.signs()[place]]]
            row.append(pick.choice([kept, tuple(kept), kept[:-1], kept + [0], (kept,)]))
        found.append(row)
    return found


class TestRuns(unittest.TestCase):
    def test_runs(self):
        for net in NETS:
            for seed, plan in enumerate((mix_steady(), mix_steady(2))):
                for begun in beginnings(net, 2, seed):
                    for rounds in range(4):
                        stand = slow_states(net, plan, begun, rounds)
                        self.assertEqual(states_behind(net=net, plan=plan, begun=begun, rounds=rounds), stand)
                        answers = [plan[2](sign, state) for sign, state in zip(net.signs(), stand)]
                        self.assertEqual(answers_from(net=net, plan=plan, begun=begun, rounds=rounds), answers)
                        self.assertEqual(answers_from(net, list(plan), as_lists(begun), rounds), answers)

    def test_edges(self):
        self.assertEqual(states_behind(S, mix_steady(), [["x", []], 0, ()], 0), [("x", ()), 0, ()])
        self.assertIs(type(states_behind(S, mix_steady(), (0, 0, 0), 1)), list)
        thing = [None, {}]
        plan = mix_steady()[:2] + (lambda sign, state: thing,)
        for answer in answers_from(S, plan, [0, 0, 0], 2):
            self.assertIs(answer, thing)

        def never(sign, state):
            raise AssertionError

        self.assertEqual(len(states_behind(S, mix_steady()[:2] + (never,), [0, 0, 0], 2)), 3)

    def test_asked_once(self):
        for net in NETS:
            counting = Counting(mix_steady(2))
            answers_from(net, counting.functions, [0] * len(net), 4)
            self.assertEqual(len(counting.asked), len(set(counting.asked)))
            for name, given in counting.asked:
                self.assertEqual(given, as_tuples(given))
                if name == 0:
                    self.assertTrue(any(given[0] == net.signs()[place] and given[2] in marks(net, place)
                                        for place in range(len(net))))

    def test_alike_ones_that_begin_alike_stay_alike(self):
        for net in NETS:
            lots = kinds_for_ever(net)
            begun = [0] * len(net)
            for at, lot in enumerate(lots):
                for place in lot:
                    begun[place] = ("lot", at)
            for rounds in range(5):
                stand = states_behind(net, mix_steady(101), begun, rounds)
                for lot in lots:
                    self.assertEqual(len({stand[place] for place in lot}), 1)

    def test_errors_in_order(self):
        for call in (answers_from, states_behind):
            for thing in ANY_OBJECTS + [(len,) * 4, (len,) * 2, (len, 0, len)]:
                faults(lambda plan: call(S, plan, None, None), BadPlan, "thing", [(thing, thing)])
            pairs = [(thing, 0) for thing in ANY_OBJECTS if not isinstance(thing, (list, tuple))]
            for thing in not_words():
                pairs += [([thing], 0), ((0, "a", thing), 2), ([0] * 5 + [thing, thing], 5)]
            pairs += [([], 0), ((0,), 1), ([0, 0], 2), ([0] * 4, 3), ((0,) * 9, 3)]
            faults(lambda begun: call(S, mix_steady(), begun, None), BadBegun, "index", pairs)
            faults(lambda rounds: call(S, mix_steady(), [0] * 3, rounds), BadNumber, "thing",
                   [(thing, thing) for thing in ANY_OBJECTS if type(thing) is not int or thing < 0])
            for at in range(2):
                for thing in not_words():
                    plan = list(mix_steady())
                    plan[at] = lambda *given: thing
                    faults(lambda told: call(R, plan, [0] * 4, 1), NoWord, "thing", [(thing, thing)])
                    call(R, plan, [0] * 4, 0)

    def test_which_no_word_comes_first(self):
        net = Net(["a", "b"], [(0, 1, "x", 0), (0, 1, "w", 0), (1, 0, "y", 0)])
        wrong = {}

        def say(sign, state, out):
            return {"say": out} if out in wrong else 0

        def hear(sign, state, heard):
            return {"hear": sign} if sign in wrong else 0

        for bad, held in (("xwyab", {"say": "w"}), ("xyab", {"say": "x"}), ("yab", {"say": "y"}), ("ab", {"hear": "a"}),
                          ("b", {"hear": "b"})):
            wrong = {letter: True for letter in bad}
            with self.assertRaises(NoWord) as caught:
                states_behind(net, (say, hear, len), [0, 0], 3)
            self.assertEqual(caught.exception.thing, held)

    def test_errors_go_through(self):
        def fail(*given):
            raise KeyError

        for at in range(3):
            plan = list(mix_steady())
            plan[at] = fail
            with self.assertRaises(KeyError):
                answers_from(R, plan, [0] * 4, 1)


class TestSteady(unittest.TestCase):
    def test_from_any_beginning(self):
        for seed, net in enumerate(NETS[:14]):
            for plan in (view_plan(), mix_plan(7)):
                for rounds in range(4):
                    made = steady(plan=plan, rounds=rounds)
                    self.assertEqual([type(made), len(made)], [tuple, 3])
                    wanted = told(net, plan, rounds)
                    for begun in beginnings(net, rounds, seed):
                        for later in (rounds, rounds + 1, rounds + 3):
                            self.assertEqual(answers_from(net, made, begun, later), wanted)

    def test_fewer_rounds_raise_nothing(self):
        for seed, net in enumerate(NETS[:8]):
            for begun in beginnings(net, 3, seed):
                for rounds in range(3):
                    self.assertEqual(len(answers_from(net, steady(view_plan(), 3), begun, rounds)), len(net))
                    self.assertEqual(len(states_behind(net, steady(view_plan(), 3), begun, rounds)), len(net))

    def test_plans_are_asked_what_they_know_alone(self):
        """From as many rounds on the plan's functions meet nothing that does not come from the net itself."""
        def begin(sign):
            return {"a": ("A",), "b": ("B",)}[sign]

        def say(state, out):
            return [out, state[0]]

        def hear(state, heard):
            self.assertTrue(all(letter[1] in "AB" for _, letter in heard))
            return (*state, len(heard))

        plan = (begin, say, hear, lambda state: state)
        for rounds in (0, 1, 3):
            for begun in beginnings(R, rounds, rounds):
                self.assertEqual(answers_from(R, steady(plan, rounds), begun, rounds + 1), told(R, plan, rounds))

    def test_wishes(self):
        """A wish with a right choice for so many rounds is done from all beginnings."""
        done = 0
        for net in NETS:
            for word in ("head", ("colours", 3), ("steps", "a")):
                answers, right = written([net], word)
                for rounds in range(4):
                    if first_choice([net], answers, right, rounds) is None:
                        continue
                    made = steady(plan_for([net], answers, right, rounds), rounds)
                    for begun in beginnings(net, rounds, rounds)[:2]:
                        for later in (rounds, rounds + 2):
                            row = answers_from(net, made, begun, later)
                            self.assertTrue(right(0, tuple(row)))
                            done += 1
        self.assertGreater(done, 50)

    def test_errors(self):
        for thing in ANY_OBJECTS + [(len,) * 3]:
            faults(lambda plan: steady(plan, None), BadPlan, "thing", [(thing, thing)])
            if type(thing) is not int or thing < 0:
                faults(lambda rounds: steady(mix_plan(), rounds), BadNumber, "thing", [(thing, thing)])
        plan = list(mix_plan())
        made = steady(plan, 2)
        plan.clear()
        self.assertEqual(answers_from(R, made, [0] * 4, 2), told(R, mix_plan(), 2))

    def test_limits(self):
        begin = time.time()
        net = Net(["a"] * 6, [(at % 6, (at * 5 + 1) % 6, at % 3, at % 2) for at in range(10)])
        self.assertEqual(answers_from(net, steady(view_plan(), 4), [0] * 6, 8), told(net, view_plan(), 4))
        crowd = Net(["a"], [(0, 0, at % 7, 0) for at in range(7)])
        self.assertEqual(answers_from(crowd, steady(view_plan(), 4), ["x"], 8), told(crowd, view_plan(), 4))
        self.assertLess(time.time() - begin, 10)


if __name__ == "__main__":
    unittest.main()
