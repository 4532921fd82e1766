"""Points 36, 37, 40: wishes, choices, nets that bar."""

import itertools
import random
import unittest

from samefromhere.errors import BadAnswers, BadNets, BadNumber, BadPlan, BadRight
from samefromhere.netlists import kinds_of, parted_nets, rounds_of
from samefromhere.nets import Net
from samefromhere.wishes import barring, choices, first_choice, rounds_for
from samefromhere.wishplans import break_wish, plan_for, wish_fault
from samefromhere.written import written
from tests.helpers import ANY_OBJECTS, LONE, R, S, Counting, as_lists, mix_plan, not_words, random_net, ring


def wishes(many=40):
    """Lists of nets with a wish: written ones, and ones that go by chance."""
    nets = [random_net(seed, most=4, signs=2, road_words=1, roads=5) for seed in range(many)]
    found = [([R, S], *written([R, S], "head")), ([S], *written([S], "names"))]
    for seed in range(many):
        pick = random.Random(seed)
        lot = nets[seed:seed + pick.randint(1, 3)]
        chance = pick.choice([0.2, 0.5, 0.8])
        found.append((lot, [["x"], 3, ""][:pick.randint(1, 3)], chance_wish(seed, chance)))
        found.append((lot[:2], *written(lot[:2], pick.choice(["head", ("colours", 2), ("steps", "a"), "tree"]))))
    return found


def chance_wish(seed, chance):
    def right(index, answers):
        return random.Random(str((seed, index, answers))).random() < chance

    return right


def slow_choices(nets, answers, right, rounds):
    lots = kinds_of(nets, rounds_of(nets) if rounds is None else rounds)
    words = [tuple(answer) if isinstance(answer, list) else answer for answer in answers]
    found = []
    for choice in itertools.product(words, repeat=len(lots)):
        told = [{place: choice[at] for at, lot in enumerate(lots) for i, place in lot if i == index}
                for index in range(len(nets))]
        if all(right(index, tuple(row[place] for place in range(len(nets[index])))) for index, row in enumerate(told)):
            found.append(choice)
    return found


def asked_once(right):
    """The function, and the list of what it is asked."""
    asked = []

    def watched(index, answers):
        asked.append((index, answers))
        return right(index, answers)

    return watched, asked


class TestChoices(unittest.TestCase):
    def test_all_right_ones(self):
        met = set()
        for nets, answers, right in wishes():
            for rounds in (0, 1, 2, None):
                found = slow_choices(nets, answers, right, rounds)
                self.assertEqual(choices(nets=nets, answers=answers, right=right, rounds=rounds), found)
                self.assertEqual(first_choice(nets=nets, answers=answers, right=right, rounds=rounds),
                                 found[0] if found else None)
                met.add(bool(found))
        self.assertEqual(met, {True, False})

    def test_rounds_for(self):
        met = set()
        for nets, answers, right in wishes():
            fitting = [rounds for rounds in range(rounds_of(nets) + 1)
                       if first_choice(nets, answers, right, rounds) is not None]
            told = rounds_for(nets=nets, answers=answers, right=right)
            self.assertEqual(told, fitting[0] if fitting else None)
            self.assertEqual(fitting, list(range(told, rounds_of(nets) + 1)) if fitting else [])
            met.add(told)
        self.assertTrue({None, 0, 1} <= met)

    def test_order_of_answers(self):
        bare = Net(["a", "b"], [])
        told = choices([bare], ["z", 5, ["q"]], lambda index, answers: True, 0)
        self.assertEqual(told[:4], [("z", "z"), ("z", 5), ("z", ("q",)), (5, "z")])
        self.assertEqual(choices([LONE], [1], lambda index, answers: True, None), [(1,)])
        self.assertEqual(choices([LONE], [1], lambda index, answers: False, None), [])

    def test_right_is_asked_once_with_tuples(self):
        for nets, answers, right in wishes(25):
            for call in (lambda watched: choices(nets, answers, watched, None),
                         lambda watched: rounds_for(nets, answers, watched),
                         lambda watched: barring(nets, answers, watched, 1),
                         lambda watched: plan_for(nets, as_lists(answers), watched, None),
                         lambda watched: wish_fault(nets, answers, watched, mix_plan(), 1)):
                watched, asked = asked_once(right)
                call(watched)
                self.assertEqual(len(asked), len(set(asked)))
                for index, told in asked:
                    self.assertIsInstance(told, tuple)
                    self.assertEqual(len(told), len(nets[index]))

    def test_errors_go_through(self):
        class Own(Exception):
            pass

        def right(index, answers):
            raise Own

        for function in (choices, first_choice, barring, plan_for):
            with self.assertRaises(Own):
                function([R], [0], right, 0)

    def test_what_was_passed_is_changed(self):
        nets, answers = [S], [["a"], "b"]

        def right(index, told):
            answers.clear()
            nets.clear()
            return told == (("a",), "b", "b")

        self.assertEqual(choices(nets, answers, right, None), [(("a",), "b")])

    def test_twenty_thousand(self):
        net = Net(list(range(14)), [])
        self.assertEqual(len(choices([net], [0, 1], lambda index, answers: sum(answers) == 1, 0)), 14)
        nets = [ring(["a", "b"] * 3), ring(["b", "c"] * 4), ring(["c", "d"])]
        self.assertIsNone(first_choice(nets, list(range(9)), lambda index, answers: False, None))


class TestBarring(unittest.TestCase):
    def test_first_of_the_shortest(self):
        met = set()
        for nets, answers, right in wishes():
            for rounds in (0, 1, None):
                found = None
                for size in range(1, len(nets) + 1):
                    for lot in itertools.combinations(range(len(nets)), size):
                        if found is None and not slow_choices([nets[at] for at in lot], answers,
                                                              lambda at, told: right(lot[at], told),
                                                              rounds_of(nets) if rounds is None else rounds):
                            found = list(lot)
                self.assertEqual(barring(nets=nets, answers=answers, right=right, rounds=rounds), found)
                met.add(len(found) if found else None)
                pairs = list(itertools.combinations(range(len(nets)), 2))
                if found and parted_nets(nets, rounds_of(nets) if rounds is None else rounds) == pairs:
                    self.assertEqual(len(found), 1)
        self.assertTrue({None, 1, 2} <= met)

    def test_nets_that_bar_together(self):
        nets = [ring("a"), ring("b"), ring("aa"), ring("a")]
        answers, right = written(nets, ("true", [1, 2, 3, 1]))
        self.assertEqual(barring(nets, answers, right, None), [0, 2])
        answers, right = written(nets, ("true", [1, 2, 1, 3]))
        self.assertEqual(barring(nets, answers, right, None), [0, 3])
        answers, right = written(nets, ("true", [1, 2, 1, 1]))
        self.assertIsNone(barring(nets, answers, right, 0))


class TestErrors(unittest.TestCase):
    def calls(self, nets, answers, right, plan, rounds):
        told = [lambda: choices(nets, answers, right, rounds), lambda: first_choice(nets, answers, right, rounds),
                lambda: rounds_for(nets, answers, right), lambda: barring(nets, answers, right, rounds),
                lambda: plan_for(nets, answers, right, rounds)]
        return told + [lambda: wish_fault(nets, answers, right, plan, rounds),
                       lambda: break_wish(nets, answers, right, plan, rounds)]

    def check(self, error, name, value, calls):
        for call in calls:
            with self.assertRaises(error) as caught:
                call()
            if name == "index":
                self.assertEqual(caught.exception.index, value)
            else:
                self.assertIs(caught.exception.thing, value)

    def test_bad_nets(self):
        for thing in ANY_OBJECTS:
            if not isinstance(thing, (list, tuple)) or len(thing) == 0:
                self.check(BadNets, "index", 0, self.calls(thing, None, None, None, None))
            if not isinstance(thing, Net):
                self.check(BadNets, "index", 1, self.calls([R, thing, None], [], None, None, -1))

    def test_bad_answers(self):
        for thing in ANY_OBJECTS:
            if not isinstance(thing, (list, tuple)) or len(thing) == 0:
                self.check(BadAnswers, "index", 0, self.calls([R], thing, None, None, -1))
        for thing in not_words() + ["a", ("b",), ["b"]]:
            self.check(BadAnswers, "index", 2, self.calls([R], ["a", ["b"], thing, None], None, None, -1))

    def test_bad_right(self):
        for thing in ANY_OBJECTS:
            if not callable(thing):
                self.check(BadRight, "thing", thing, self.calls([R], [0], thing, None, -1))

    def test_bad_plan_and_number(self):
        def right(index, answers):
            raise AssertionError

        for thing in ANY_OBJECTS:
            self.check(BadPlan, "thing", thing, self.calls([R], [0], right, thing, -1)[-2:])
            if thing is not None and (isinstance(thing, bool) or not isinstance(thing, int) or thing < 0):
                calls = self.calls([R], [0], right, mix_plan(), thing)
                self.check(BadNumber, "thing", thing, calls[:2] + calls[3:])
        self.check(BadNumber, "thing", None, self.calls([R], [0], right, mix_plan(), None)[-2:])


class TestHelpers(unittest.TestCase):
    def test_counting(self):
        counting = Counting(mix_plan())
        wish_fault([R, S, R], [0], lambda index, answers: True, counting.functions, 2)
        self.assertEqual(len(counting.asked), len(set(counting.asked)))
