"""Point 63: who ends is fooled."""

import itertools
import unittest

from samefromhere.errors import (BadDue, BadNumber, BadPlan, NotJoined, NotTwoWay, NoWord, SameDue, ToldApart)
from samefromhere.finals import ended
from samefromhere.fooled import break_end, fooling
from samefromhere.joints import views_clash
from samefromhere.leastnets import least_net
from samefromhere.nets import Net
from samefromhere.shapes import is_joined, is_two_way
from samefromhere.views import view, view_plan
from tests.helpers import (ANY_OBJECTS, DOUBLE, HALF, LONE, PATH, R, S, TREE_HALF, TRIANGLE, TWO_HALVES, Counting,
                           faults, mix_plan, random_shut, random_two_way, two_way)
from tests.test_finals import K

NETS = [LONE, HALF, K, PATH, TREE_HALF, TRIANGLE, DOUBLE, TWO_HALVES, two_way(["a", "a"], [(0, 1, "x", "y")]),
        random_shut(4, 3), random_shut(5, 3), random_two_way(3, 3), random_two_way(8, 3)]
APART = Net(["a", "a"], [])


def views(net, rounds):
    return [view(net, place, rounds) for place in range(len(net))]


def all_clash(one, other, rounds):
    return all(views_clash([near, far]) is not None for near in views(one, rounds) for far in views(other, rounds))


def never(*given):
    raise AssertionError


class TestFooling(unittest.TestCase):
    def test_a_third_net_or_all_clash(self):
        found = {True: 0, False: 0}
        for one, other in itertools.product(NETS, repeat=2):
            for rounds in (0, 1, 2, 4):
                triple = fooling(one=one, other=other, rounds=rounds)
                apart = all_clash(one, other, rounds)
                self.assertEqual(triple is None, apart)
                found[apart] += 1
                if triple is not None:
                    net, place, spot = triple
                    self.assertIsInstance(triple, tuple)
                    self.assertTrue(is_two_way(net) and is_joined(net))
                    self.assertIn(view(net, place, rounds), views(one, rounds))
                    self.assertIn(view(net, spot, rounds), views(other, rounds))
                    self.assertEqual(fooling(one, other, rounds), triple)
        self.assertGreater(min(found.values()), 100)

    def test_errors(self):
        for call in (lambda one, other: fooling(one, other, None),
                     lambda one, other: break_end(one, other, None, None, None)):
            faults(lambda net: call(net, S), NotTwoWay, "thing", [(R, R), (S, S)])
            faults(lambda net: call(net, S), NotJoined, "thing", [(APART, APART)])
            faults(lambda net: call(LONE, net), NotTwoWay, "thing", [(R, R), (S, S)])
            faults(lambda net: call(LONE, net), NotJoined, "thing", [(APART, APART)])
        faults(lambda rounds: fooling(LONE, K, rounds), BadNumber, "thing",
               [(thing, thing) for thing in ANY_OBJECTS if type(thing) is not int or thing < 0])

    def test_limits(self):
        one = two_way(list("abcdef"), [(i, i + 1, 1, 0) for i in range(5)] + [(5, 0, 1, 0)])
        other = two_way(list("abcdea"), [(i, i + 1, 1, 0) for i in range(5)])
        net, place, spot = fooling(one, other, 12) or (None, None, None)
        self.assertIsNone(net)
        other = two_way(list("abcdea"), [(i, i + 1, 1, 0) for i in range(5)] + [(5, 5, 1, 1), (0, 0, 0, 0)])
        net, place, spot = fooling(one, other, 12)
        self.assertIn(view(net, place, 12), views(one, 12))
        self.assertIn(view(net, spot, 12), views(other, 12))


def table_plan(table):
    """A plan that ends with what a table has for views."""
    begin, say, hear, _ = view_plan()
    return begin, say, hear, lambda state: table.get(state)


def dues():
    yield lambda net: len(net)
    yield lambda net: [len(least_net(net)), "places"]
    yield lambda net: "half" if any(road[0] == road[1] and road[2] == road[3] for road in net.roads()) else "none"


class TestBreakEnd(unittest.TestCase):
    def check(self, one, other, plan, rounds, due):
        net, place, answer = break_end(one=one, other=other, plan=plan, rounds=rounds, due=due)

        def bad(some):
            word = due(some)
            wrong = []
            for at, end in enumerate(ended(some, plan, rounds)):
                given = None if end is None else end[1]
                if end is None or isinstance(given, bool) or str(given) != str(word):
                    wrong.append((at, given))
            return wrong

        for known in (one, other):
            if bad(known):
                self.assertEqual((net, place, answer), (known,) + bad(known)[0])
                return 0
        self.assertTrue(is_two_way(net) and is_joined(net))
        self.assertTrue([seen for seen in views(net, rounds) if seen in views(one, rounds)])
        self.assertTrue([seen for seen in views(net, rounds) if seen in views(other, rounds)])
        self.assertEqual((place, answer), bad(net)[0])
        return 1

    def test_somebody_is_wrong(self):
        third = 0
        for one, other in itertools.product(NETS, repeat=2):
            for due in dues():
                for rounds in (0, 1, 2):
                    if due(one) == due(other) or all_clash(one, other, rounds):
                        continue
                    table = {seen: due(net) for net in (one, other) for seen in views(net, rounds)}
                    plans = [mix_plan(), view_plan(), table_plan(table), table_plan({}),
                             view_plan()[:3] + (lambda state: due(one) if state[0] == rounds else None,)]
                    for plan in plans:
                        third += self.check(one, other, plan, rounds, due)
        self.assertGreater(third, 100)

    def test_ends_as_told(self):
        def plan(answer):
            return lambda sign: 0, lambda state, out: 0, lambda state, heard: 0, lambda state: answer

        def due(net):
            return len(net)

        self.assertEqual(break_end(LONE, K, plan(None), 0, due), (LONE, 0, None))
        self.assertEqual(break_end(LONE, K, plan(1), 0, due), (K, 0, 1))
        for answer in (True, {}, "1", [1]):
            net, place, told = break_end(LONE, K, plan(answer), 0, due)
            self.assertEqual((net, place), (LONE, 0))
            self.assertIs(told, answer)
        self.assertEqual(break_end(LONE, K, plan([1]), 0, lambda net: (len(net),)), (K, 0, [1]))
        self.assertEqual(break_end(LONE, K, plan((1,)), 0, lambda net: [len(net)]), (K, 0, (1,)))
        self.assertEqual(break_end(LONE, K, plan([True]), 0, lambda net: [len(net)]), (LONE, 0, [True]))

    def test_first_place(self):
        plan = (lambda sign: sign, lambda state, out: 0, lambda state, heard: state,
                lambda state: 1 if state == "a" else None)
        net = two_way(["a", "b", "b"], [(0, 1, 0, 0), (1, 2, 1, 0)])
        self.assertEqual(break_end(net, LONE, plan, 0, lambda some: 1 if len(some) == 3 else 2), (net, 1, None))

    def test_errors_in_order(self):
        good = view_plan()
        for thing in ANY_OBJECTS:
            with self.assertRaises(BadPlan) as caught:
                break_end(LONE, K, thing, None, None)
            self.assertIs(caught.exception.thing, thing)
        faults(lambda rounds: break_end(LONE, K, good, rounds, None), BadNumber, "thing",
               [(thing, thing) for thing in ANY_OBJECTS if type(thing) is not int or thing < 0])
        faults(lambda due: break_end(LONE, K, good, 0, due), BadDue, "thing",
               [(thing, thing) for thing in ANY_OBJECTS if not callable(thing)])
        for thing in [None, True, [0, [False]], {}, len, LONE]:
            for bad in (LONE, K):
                with self.assertRaises(NoWord) as caught:
                    break_end(LONE, K, good, 9, lambda net: thing if net == bad else 0)
                self.assertIs(caught.exception.thing, thing)

    def test_same_due_and_told_apart(self):
        strange = (never,) * 4
        with self.assertRaises(SameDue) as caught:
            break_end(LONE, K, strange, 9, lambda net: "word")
        self.assertEqual(caught.exception.thing, "word")
        with self.assertRaises(SameDue) as caught:
            break_end(LONE, K, strange, 0, lambda net: ["a", 0] if net == LONE else ("a", 0))
        self.assertEqual(caught.exception.thing, ("a", 0))
        with self.assertRaises(ToldApart):
            break_end(LONE, K, strange, 9, lambda net: len(net))
        with self.assertRaises(SameDue):
            break_end(K, K, strange, 9, lambda net: len(net))

    def test_run_errors_come_last(self):
        plan = (lambda sign: 0, lambda state, out: None, lambda state, heard: 0, lambda state: 1)
        with self.assertRaises(NoWord) as caught:
            break_end(HALF, PATH, plan, 1, lambda net: len(net))
        self.assertIsNone(caught.exception.thing)

    def test_due_is_asked_once_for_equal_nets(self):
        for one, other in itertools.product(NETS, repeat=2):
            for rounds in (0, 1, 3):
                asked = []

                def due(net):
                    asked.append(net)
                    return len(net)

                try:
                    break_end(one, other, mix_plan(3), rounds, due)
                except (SameDue, ToldApart):
                    pass
                self.assertFalse([net for at, net in enumerate(asked) if net in asked[:at]])

    def test_a_plan_is_asked_once(self):
        table = {seen: len(net) for net in (TRIANGLE, DOUBLE) for seen in views(net, 3)}
        for plan in (mix_plan(2), table_plan({}), table_plan(table)):
            count = Counting(plan)
            break_end(TRIANGLE, DOUBLE, count.functions, 3, lambda net: len(net))
            self.assertEqual(len(count.asked), len(set(count.asked)))

    def test_raised_errors_go_through(self):
        def due(net):
            raise KeyError

        with self.assertRaises(KeyError):
            break_end(LONE, K, view_plan(), 0, due)


if __name__ == "__main__":
    unittest.main()
