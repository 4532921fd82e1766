"""Points 38, 39: plans for wishes, and what is wrong with plans."""

import unittest

from samefromhere.errors import CanBeDone, NoWord
from samefromhere.kinds import kinds_for_ever, rounds_needed
from samefromhere.netlists import kinds_of, rounds_of
from samefromhere.nets import Net
from samefromhere.plans import told
from samefromhere.views import view_plan
from samefromhere.wishes import first_choice
from samefromhere.wishplans import break_wish, plan_for, wish_fault
from samefromhere.written import written
from tests.helpers import LONE, R, S, Counting, as_tuples, mix_plan, ring, samples, word_like
from tests.test_wishes import asked_once, wishes


def teller(*answers):
    """A plan that knows nothing but signs, and tells by them."""
    table = dict(answers)
    return (lambda sign: sign, lambda state, out: 0, lambda state, heard: state, lambda state: table[state])


def never(*given):
    raise AssertionError


class TestPlanFor(unittest.TestCase):
    def test_a_choice_is_a_plan(self):
        count = 0
        for nets, answers, right in wishes():
            for rounds in (0, 1, 2, 7, None):
                choice = first_choice(nets, answers, right, rounds)
                plan = plan_for(nets=nets, answers=answers, right=right, rounds=rounds)
                self.assertEqual(plan is None, choice is None)
                if plan is None:
                    continue
                self.assertIsInstance(plan, tuple)
                needed = rounds_of(nets) if rounds is None else rounds
                lots = kinds_of(nets, needed)
                for index, net in enumerate(nets):
                    found = [choice[at] for place in range(len(net)) for at, lot in enumerate(lots)
                             if (index, place) in lot]
                    self.assertEqual(told(net, plan, needed), found)
                self.assertIsNone(wish_fault(nets, answers, right, plan, needed))
                count += 1
        self.assertGreater(count, 100)

    def test_all_kinds_are_told_apart(self):
        for net in samples(60, most=5, signs=1, road_words=3):
            if len(kinds_for_ever(net)) > 5:
                continue
            row = tuple(kind for place in range(len(net)) for kind, lot in enumerate(kinds_for_ever(net))
                        if place in lot)
            plan = plan_for([net], list(range(max(row) + 1)), lambda index, given: given == row, None)
            for rounds in range(rounds_needed(net), rounds_needed(net) + 3):
                self.assertEqual(told(net, plan, rounds), list(row))

    def test_elsewhere_it_tells_something(self):
        nets = [R, S]
        answers, right = written(nets, ("colours", 2))
        plan = plan_for(nets, answers, right, 3)
        for net in samples():
            for rounds in range(6):
                for answer in told(net, plan, rounds):
                    self.assertIn(answer, answers)
        self.assertEqual(told(ring("ba"), plan, 3), [1, 0])

    def test_ahead_of_its_rounds_and_behind(self):
        row = Net(["a"] * 4, [(i, i + 1, "", "") for i in range(3)])
        answers, right = written([row], "names")
        plan = plan_for([row], answers, right, None)
        for rounds in range(3):
            for answer in told(row, plan, rounds):
                self.assertIn(answer, answers)
        for rounds in (3, 4, 30):
            self.assertEqual(told(row, plan, rounds), [0, 1, 2, 3])

    def test_many_rounds_and_roads(self):
        """Views here would be far too long to be written."""
        net = Net(["a"] * 13 + ["b"], [(i, (i + 1) % 14, 0, 0) for i in range(14)] * 5)
        answers, right = written([net], "head")
        plan = plan_for([net], answers, right, None)
        self.assertEqual(rounds_of([net]), 12)
        self.assertEqual(told(net, plan, 12), [0] * 13 + [1])
        self.assertEqual(told(net, plan, 60), [0] * 13 + [1])

    def test_what_was_passed_is_changed(self):
        nets, answers = [S], [["a"], "b"]
        plan = plan_for(nets, answers, lambda index, given: given == (("a",), "b", "b"), 0)
        answers[0].append("c")
        answers.clear()
        nets.clear()
        self.assertEqual(told(S, plan, 0), [("a",), "b", "b"])


class TestFault(unittest.TestCase):
    def test_odd_and_wrong(self):
        answers, right = written([S, R], "head")
        good = teller(("x", 1), ("y", 0), ("a", 0), ("b", 0))
        self.assertIsNone(wish_fault(nets=[S], answers=answers, right=right, plan=good, rounds=2))
        self.assertEqual(wish_fault([S, R], answers, right, good, 0), (1, (0, 0, 0, 0), "wrong"))
        self.assertEqual(wish_fault([R, S], answers, lambda index, given: sum(given) == 1, good, 0),
                         (0, (0, 0, 0, 0), "wrong"))
        for thing in (True, 1.0, None, [], {}, "1", (1,), [True], S):
            if thing != 1.0 or thing is True:
                odd = teller(("x", 1), ("y", thing))
                index, given, how = wish_fault([S], answers, right, odd, 0)
                self.assertEqual((index, how), (0, "odd"))
                self.assertIsInstance(given, tuple)
                self.assertIs(given[0], 1)
                self.assertEqual(given[1], as_tuples(thing) if word_like(thing) else thing)
                if not word_like(thing):
                    self.assertIs(given[1], thing)

    def test_lists_are_words(self):
        plan = teller(("x", ["q", ["r"]]), ("y", ("q", [])))
        seen = []

        def right(index, given):
            seen.append((index, given))
            return False

        told_fault = (0, (("q", ("r",)), ("q", ()), ("q", ())), "wrong")
        self.assertEqual(wish_fault([S], [["q", ("r",)], ("q", ())], right, plan, 1), told_fault)
        self.assertEqual(seen, [told_fault[:2]])
        self.assertEqual(wish_fault([S], ["q"], never, plan, 1), told_fault[:2] + ("odd",))

    def test_none_is_run_behind_a_fault(self):
        plan = teller(("x", 1), ("y", 1))
        asked = []

        def right(index, given):
            asked.append(index)
            return index == 0

        self.assertEqual(wish_fault([S, S, LONE], [1], right, plan, 0), (1, (1, 1, 1), "wrong"))
        self.assertEqual(asked, [0, 1])
        begun = []
        plan = (lambda sign: begun.append(sign) or sign,) + plan[1:]
        wish_fault([S, LONE], [0], right, plan, 0)
        self.assertEqual(begun, ["x", "y"])
        with self.assertRaises(NoWord) as caught:
            wish_fault([S, LONE], [0], right, (lambda sign: None,) + plan[1:], 0)
        self.assertIsNone(caught.exception.thing)

    def test_each_function_is_asked_once(self):
        for nets, answers, right in wishes(20):
            counting = Counting(view_plan())
            wish_fault(nets, answers, right, counting.functions, 2)
            self.assertEqual(len(counting.asked), len(set(counting.asked)))


class TestJustOne(unittest.TestCase):
    def test_a_choice_or_a_fault(self):
        met = set()
        for nets, answers, right in wishes():
            for rounds in (0, 1, 2):
                choice = first_choice(nets, answers, right, rounds)
                plans = [view_plan(), mix_plan(), mix_plan(2), mix_plan(1)]
                plans += [plan[:3] + (lambda state: answers[hash(str(state)) % len(answers)],) for plan in plans]
                met.add(choice is None)
                if choice is None:
                    for plan in plans:
                        fault = wish_fault(nets, answers, right, plan, rounds)
                        watched, asked = asked_once(right)
                        self.assertEqual(break_wish(nets=nets, answers=answers, right=watched, plan=plan,
                                                    rounds=rounds), fault)
                        self.assertEqual(len(asked), len(set(asked)))
                        self.assertIn(fault[2], ("odd", "wrong"))
                else:
                    self.assertIsNone(wish_fault(nets, answers, right, plan_for(nets, answers, right, rounds), rounds))
                    with self.assertRaises(CanBeDone):
                        break_wish(nets, answers, right, (never, never, never, never), rounds)
        self.assertEqual(met, {True, False})

    def test_few_rounds(self):
        """With two rounds the end of the row is known, with one it is not."""
        row = Net(["a"] * 4, [(i, i + 1, "", "") for i in range(3)])
        answers = [0, 1]

        def right(index, given):
            return given == (0, 0, 1, 1)

        with self.assertRaises(CanBeDone):
            break_wish([row], answers, right, mix_plan(), 2)
        self.assertEqual(break_wish([row], answers, right, plan_for([row], answers, right, 2), 1)[0], 0)
        with self.assertRaises(NoWord):
            break_wish([row], answers, right, (lambda sign: {},) + mix_plan()[1:], 1)
