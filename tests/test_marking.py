"""Points 42 to 45: what written wishes can be done, marked nets, fewest marks, unlike words."""

import itertools
import unittest

from samefromhere.errors import BadAnswers, BadNumber, BadPlaces, BadRight
from samefromhere.kinds import kinds_for_ever
from samefromhere.madenets import with_signs
from samefromhere.marking import fewest_marked, marked, words_for
from samefromhere.netlists import kinds_of
from samefromhere.nets import Net
from samefromhere.wishes import choices, first_choice
from samefromhere.written import written
from tests.helpers import (ANY_OBJECTS, HALF, LONE, R, S, TRIANGLE, TWO_WAYS, faults, random_two_way, ring,
                           samples)

NETS = [net for net in samples(25, most=4) if len(net) <= 4]
WORDS = ["head", "names", ("colours", 2), ("colours", 3), ("steps", "a"), "tree"]


def never(*given):
    raise AssertionError


def slow_can(net, answers, right, rounds):
    """Whether some row of answers, alike places alike, is right."""
    lots = kinds_of([net], rounds) if rounds is not None else [[(0, p) for p in lot] for lot in kinds_for_ever(net)]
    for row in itertools.product(answers, repeat=len(lots)):
        told = [None] * len(net)
        for answer, lot in zip(row, lots):
            for _, place in lot:
                told[place] = answer
        if right(0, tuple(told)):
            return True
    return False


class TestMarked(unittest.TestCase):
    def test_marked(self):
        for net in samples(10):
            for places in ([], [0], list(range(len(net))), list(range(len(net)))[::-1]):
                signs = [(sign, 1 if place in places else 0) for place, sign in enumerate(net.signs())]
                self.assertEqual(marked(net=net, places=places), Net(signs, net.roads()))
                self.assertEqual(marked(net, tuple(places)), Net(signs, net.roads()))

    def test_errors(self):
        pairs = [(thing, 0) for thing in ANY_OBJECTS if not isinstance(thing, (list, tuple))]
        for thing in ANY_OBJECTS:
            if thing is not True and not (isinstance(thing, int) and 0 <= thing < 4):
                pairs += [([thing], 0), ([3, thing, thing], 1), ((0, 1, 2, 3, thing), 4)]
        pairs += [([True], 0), ([0, False], 1), ([1, 1], 1), ([0, 3, 0, 9], 2), ([4], 0), ([-1], 0), ("0", 0)]
        faults(lambda thing: marked(R, thing), BadPlaces, "index", pairs)

    def test_a_mark_makes_all_unlike_in_two_way_nets(self):
        for net in TWO_WAYS + [random_two_way(seed) for seed in range(20)]:
            for place in range(len(net)):
                self.assertEqual(len(kinds_for_ever(marked(net, [place]))), len(net))
        many = Net(["a", "a", "a"], [(0, 1, "", ""), (0, 2, "", "")])
        self.assertEqual(len(kinds_for_ever(marked(many, [1]))), 3)
        self.assertEqual(kinds_for_ever(marked(many, [0, 1, 2])), kinds_for_ever(many))


class TestFewest(unittest.TestCase):
    def test_all_lists(self):
        found = set()
        for net in NETS:
            for word in WORDS:
                answers, right = written([net], word)
                for rounds in (0, 1, None):
                    wanted = []
                    for size in range(len(net) + 1):
                        wanted = [list(places) for places in itertools.combinations(range(len(net)), size)
                                  if slow_can(marked(net, places), answers, right, rounds)]
                        if wanted:
                            break
                    told = fewest_marked(net=net, answers=answers, right=right, rounds=rounds)
                    self.assertEqual(told, wanted)
                    found.add(len(wanted[0]) if wanted else None)
        self.assertLessEqual({None, 0, 1, 2}, found)

    def test_edges(self):
        self.assertEqual(fewest_marked(LONE, [0], lambda index, told: True, 0), [[]])
        self.assertEqual(fewest_marked(LONE, [0], lambda index, told: False, None), [])
        self.assertEqual(fewest_marked(Net(["a"] * 2, []), [0, 1], lambda index, told: sum(told) == 1, None), [[0], [1]])
        both = ring("aa")
        self.assertEqual(fewest_marked(both, *written([both], "head"), None), [[0], [1]])
        self.assertEqual(fewest_marked(TRIANGLE, *written([TRIANGLE], "names"), None), [[0], [1], [2]])
        self.assertEqual(fewest_marked(TRIANGLE, *written([TRIANGLE], "names"), 0), [])

    def test_limits(self):
        net = Net(["a"] * 8, [(i, i + 1, "", "") for i in range(7)] + [(7, 0, "", "")])
        self.assertEqual(fewest_marked(net, [0, 1, 2], lambda index, told: False, None), [])
        self.assertEqual(fewest_marked(net, *written([net], "head"), None), [[place] for place in range(8)])


class TestWords(unittest.TestCase):
    def test_all_lists(self):
        found = set()
        for net in NETS:
            for word in WORDS:
                answers, right = written([net], word)
                for rounds in (0, 1, None):
                    wanted = None
                    lists = itertools.product(range(len(net)), repeat=len(net))
                    lists = [list(row) for row in lists if set(row) == set(range(len(set(row))))]
                    for row in sorted(lists, key=lambda row: (len(set(row)), row)):
                        signs = [(sign, number) for sign, number in zip(net.signs(), row)]
                        if slow_can(with_signs(net, signs), answers, right, rounds):
                            wanted = row
                            break
                    told = words_for(net=net, answers=answers, right=right, rounds=rounds)
                    self.assertEqual(told, wanted)
                    if wanted is not None:
                        self.assertIsInstance(told, list)
                        self.assertEqual(max(told) == 0, bool(choices([net], answers, right, rounds)))
                    found.add(None if wanted is None else max(wanted))
        self.assertLessEqual({None, 0, 1, 2}, found)

    def test_fewer_words_come_first(self):
        net = Net(["a"] * 4, [])
        told = words_for(net, [0, 1, 2], lambda index, told: told[0] != told[1] or len(set(told)) == 3, 0)
        self.assertEqual(told, [0, 1, 0, 0])

    def test_limits(self):
        net = Net(["a"] * 6, [])
        self.assertIsNone(words_for(net, [0, 1, 2, 3, 4], lambda index, told: False, 3))
        self.assertEqual(words_for(net, *written([net], "names"), None), [0, 1, 2, 3, 4, 5])


class TestBoth(unittest.TestCase):
    def test_errors(self):
        for call in (fewest_marked, words_for):
            faults(lambda thing: call(R, thing, None, "x"), BadAnswers, "index",
                   [(None, 0), ([], 0), ("ab", 0), ([0, None], 1), ([0, 1, 0], 2), ([(0,), [0]], 1), (len, 0)])
            things = [thing for thing in ANY_OBJECTS if not callable(thing)]
            faults(lambda thing: call(R, [0], thing, "x"), BadRight, "thing", [(thing, thing) for thing in things])
            things = [thing for thing in ANY_OBJECTS if thing is not None and (type(thing) is not int or thing < 0)]
            faults(lambda thing: call(R, [0], never, thing), BadNumber, "thing", [(thing, thing) for thing in things])

    def test_right_is_asked_once_of_index_0(self):
        for call in (fewest_marked, words_for):
            for net in (R, S, TRIANGLE):
                asked = []

                def right(index, told):
                    asked.append((index, told))
                    return False

                call(net, [(0,), "x"], right, None)
                self.assertEqual(len(asked), len(set(asked)))
                self.assertEqual({index for index, _ in asked}, {0})
                self.assertTrue(all(type(told) is tuple and len(told) == len(net) for _, told in asked))

    def test_what_right_raises_goes_through(self):
        def right(index, told):
            raise KeyError("here")

        for call in (fewest_marked, words_for):
            with self.assertRaises(KeyError):
                call(R, [0], right, None)

    def test_lists_for_tuples_and_nothing_changed(self):
        answers = [["a", [0]], "b"]

        def right(index, told):
            return told.count(("a", (0,))) == 1

        for call in (fewest_marked, words_for):
            for net in (R, S, TRIANGLE, HALF):
                told = call(net, answers, right, None)
                self.assertEqual(told, call(net, (("a", (0,)), "b"), right, None))
                told.append(None)
                self.assertEqual(call(net, answers, right, None), told[:-1])
        self.assertEqual(answers, [["a", [0]], "b"])


class TestWhenTheyCanBeDone(unittest.TestCase):
    def test_two_way_nets(self):
        for seed in range(40):
            net = random_two_way(seed, most=5)
            lots = kinds_for_ever(net)
            self.assertEqual(len({len(lot) for lot in lots}), 1)
            apart = len(lots) == len(net)
            for word in ("head", "names", "tree"):
                self.assertEqual(first_choice([net], *written([net], word), None) is not None, apart, (seed, word))


if __name__ == "__main__":
    unittest.main()
