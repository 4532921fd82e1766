"""Point 11: views."""

import unittest

from samefromhere.errors import BadNumber, BadPlan, BadView, NoPlace, NoWord
from samefromhere.nets import Net
from samefromhere.plans import states, told
from samefromhere.views import state_in, view, view_plan
from tests.helpers import ANY_OBJECTS, R, Counting, as_lists, mix_plan, not_words, ring, samples, slow_view


def size(seen):
    return sum(1 + size(triple[2]) for triple in seen[2])


class TestView(unittest.TestCase):
    def test_against_the_words_of_the_point(self):
        for net in samples():
            for rounds in range(4):
                for place in range(len(net)):
                    self.assertEqual(view(net=net, place=place, rounds=rounds), slow_view(net, place, rounds))

    def test_errors(self):
        with self.assertRaises(NoPlace) as caught:
            view(R, 4, None)
        self.assertEqual(caught.exception.thing, 4)
        for thing in ANY_OBJECTS:
            if isinstance(thing, bool) or not isinstance(thing, int) or thing < 0:
                with self.assertRaises(BadNumber) as caught:
                    view(R, 0, thing)
                self.assertIs(caught.exception.thing, thing)

    def test_view_plan(self):
        self.assertIsInstance(view_plan(), tuple)
        for net in samples():
            for rounds in range(4):
                views = [slow_view(net, place, rounds) for place in range(len(net))]
                self.assertEqual(states(net, view_plan(), rounds), views)
                self.assertEqual(told(net, view_plan(), rounds), views)


class TestStateIn(unittest.TestCase):
    def test_states_are_told_by_views(self):
        for net in samples():
            for plan in (view_plan(), mix_plan(), mix_plan(2)):
                for rounds in range(4):
                    stand = states(net, plan, rounds)
                    for place in range(len(net)):
                        seen = view(net, place, rounds)
                        self.assertEqual(state_in(plan=plan, seen=seen), stand[place])
                        self.assertEqual(state_in(plan, as_lists(seen)), stand[place])

    def test_asked_once(self):
        for net in samples(10):
            counting = Counting(view_plan())
            state_in(counting.functions, view(net, 0, 4))
            self.assertEqual(len(counting.asked), len(set(counting.asked)))
            self.assertFalse([name for name, _ in counting.asked if name == 3])

    def test_bad_view(self):
        leaf = (0, "a", ())
        other = (0, "b", ())
        good = [leaf, (7, "a", ()), (1, "a", ()), (1, (), ((0, 0, leaf), (0, 0, leaf), (0, 0, other), (0, "", leaf))),
                (2, 3, (("", "", (1, "a", ())), ("", "", (1, "a", ((0, 0, other),)))))]
        for seen in good:
            self.assertEqual(state_in(view_plan(), seen), seen)
        bad = [(-1, "a", ()), (0, "a"), (0, "a", (), ()), ("0", "a", ()), (True, "a", ()), (0, None, ()), (0, "a", "b"),
               (0, "a", ((0, 0, leaf),)), (1, "a", ((0, 0, other), (0, 0, leaf))), (1, "a", (("", 0, leaf), (0, 0, leaf))),
               (2, "a", ((0, 0, leaf),)), (1, "a", ((0, 0, (1, "a", ())),)), (1, "a", ((0, leaf),)),
               (1, "a", (leaf,)), (1, "a", ((0, 0, 0, leaf),)), (1, "a", ((0, None, leaf),)), (1, "a", ("00a",)),
               (1, "a", ((0, 0, ()),)), (1, "a", ((0, 0, "abc"),)), (1, "a", leaf), (0, "a", 0), ((0,), "a", ()),
               (2, "a", ((0, 0, (1, "a", ((0, 0, other), (0, 0, leaf)))),)), "0a)", (1, "a", ((0, (), leaf), (0, "", leaf)))]
        bad += [(1, "a", ""), (1, "a", "b"), (2, "a", 5), (1, "a", -1), (1, "a", (("", "", (0, "a", "")),))]
        for thing in bad + ANY_OBJECTS:
            with self.assertRaises(BadView) as caught:
                state_in(view_plan(), thing)
            self.assertIs(caught.exception.thing, thing)

    def test_order_of_errors(self):
        with self.assertRaises(BadPlan):
            state_in(None, None)
        plan = (lambda sign: None,) + view_plan()[1:]
        with self.assertRaises(BadView):
            state_in(plan, (0, "a"))
        with self.assertRaises(NoWord):
            state_in(plan, (0, "a", ()))
        for thing in not_words():
            for at in range(3):
                plan = list(view_plan())
                plan[at] = lambda *given: thing
                with self.assertRaises(NoWord) as caught:
                    state_in(plan, view(R, 0, 2))
                self.assertIs(caught.exception.thing, thing)


class TestLimits(unittest.TestCase):
    def test_sixty_rounds(self):
        net = ring(["a"] * 39 + ["b"])
        seen = view(net, 0, 60)
        self.assertEqual(size(seen), 60)
        self.assertEqual(states(net, view_plan(), 60)[0], seen)
        self.assertEqual(state_in(view_plan(), seen), seen)

    def test_four_thousand_roads(self):
        many = 40
        roads = [(i, (i + step) % many, step, -step) for i in range(many) for step in range(5)]
        net = Net(list(range(many)), roads)
        seen = view(net, 3, 5)
        self.assertEqual(size(seen), 3905)
        self.assertEqual(state_in(view_plan(), seen), seen)
        self.assertEqual(states(net, mix_plan(100), 5)[3], state_in(mix_plan(100), seen))
        hubs = Net(list(range(20)), [(0, 0, "", "")] + [(i, i, "", "") for i in range(1, 20)]
                   + [(0, i, "", "") for i in range(1, 20)])
        seen = view(hubs, 1, 60)
        self.assertEqual(size(seen), 1890)
        self.assertEqual(state_in(view_plan(), seen), seen)

    def test_views_as_signs_and_marks(self):
        seen = view(R, 0, 60)
        net = Net([seen, seen], [(0, 1, seen, seen), (1, 0, "", seen)])
        again = view(net, 0, 3)
        self.assertEqual(again, slow_view(net, 0, 3))
        self.assertEqual(state_in(view_plan(), again), again)
