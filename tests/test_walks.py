"""Points 97, 98: walkers, what they see, and rows of doors that part two places."""

import itertools
import random
import unittest

from samefromhere.errors import BadWalk, NoPlace, NotTwoWay
from samefromhere.kinds import kinds_for_ever
from samefromhere.nets import Net, marks
from samefromhere.walks import parting_row, walk_places, walk_seen
from tests.helpers import (ANY_OBJECTS, HALF, LONE, LOOPS, PATH, R, TRIANGLE, TWO_WAYS, as_lists, ascending, faults,
                           random_shut, random_two_way, two_way)

WORDY = two_way([("s", (1,)), "t"], [(0, 1, ("d", (0,)), -4), (0, 0, "x", ()), (1, 1, "h", "h")])
NETS = TWO_WAYS + [WORDY, two_way(["a"] * 4, [(i, (i + 1) % 4, "r", "l") for i in range(4)]),
                   two_way(["a"] * 6, [(i, i + 1, "r", "l") for i in range(5)]),
                   two_way(["a", "b"], [])]
NETS += [random_two_way(seed) for seed in range(25)] + [random_shut(seed) for seed in range(10)]


def door_of(net, place, mark):
    """The pair (place, mark by which one comes in) behind a door, None if there is none."""
    found = [road for road in net.roads() if road[0] == place and road[2] == mark]
    return (found[0][1], found[0][3]) if found else None


def slow_walk(net, place, row):
    """The lists of what is seen and of the places, told straight from point 97."""
    seen = [(net.signs()[place], tuple(ascending(marks(net, place))), None)]
    places = [place]
    for move in row:
        came = None
        if move is not None:
            place, came = door_of(net, place, move)
        seen.append((net.signs()[place], tuple(ascending(marks(net, place))), came))
        places.append(place)
    return seen, places


def random_row(net, place, pick, length):
    row = []
    for _ in range(length):
        move = pick.choice(marks(net, place) + [None])
        row.append(move)
        if move is not None:
            place = door_of(net, place, move)[0]
    return row


def not_two_way():
    return [R, Net(["a"], [(0, 0, "x", "y")]), Net(["a", "a"], [(0, 1, "", ""), (1, 0, "", "x")])]


def walker_errors(test, call):
    """Errors of what has a net and, next, things that are not asked ahead of it."""
    for net in not_two_way():
        with test.assertRaises(NotTwoWay) as caught:
            call(net)
        test.assertIs(caught.exception.thing, net)


class TestWalks(unittest.TestCase):
    def test_rows(self):
        pick = random.Random(1)
        for net in NETS:
            for place in range(len(net)):
                for length in (0, 1, 4, 9):
                    row = random_row(net, place, pick, length)
                    seen, places = slow_walk(net, place, row)
                    self.assertEqual(walk_seen(net=net, place=place, row=row), seen)
                    self.assertEqual(walk_places(net=net, place=place, row=row), places)
                    self.assertEqual(walk_seen(net, place, as_lists(row)), seen)
                    self.assertEqual(walk_places(net, place, tuple(row)), places)

    def test_shapes(self):
        seen = walk_seen(WORDY, 0, [["d", [0]], None, "h", -4])
        self.assertEqual(seen, [(("s", (1,)), ("x", (), ("d", (0,))), None), ("t", (-4, "h"), -4), ("t", (-4, "h"), None),
                                ("t", (-4, "h"), "h"), (("s", (1,)), ("x", (), ("d", (0,))), ("d", (0,)))])
        self.assertEqual(walk_places(WORDY, 0, [["d", [0]], None, "h", -4]), [0, 1, 1, 1, 0])
        self.assertIs(type(seen), list)
        self.assertTrue(all(type(row) is tuple and type(row[1]) is tuple for row in seen))
        self.assertEqual(walk_seen(LONE, 0, []), [("a", (), None)])
        self.assertEqual(walk_seen(HALF, 0, ["h"]), [("s", ("h",), None), ("s", ("h",), "h")])

    def test_staying_is_no_coming_in(self):
        self.assertEqual([came for _, _, came in walk_seen(LOOPS, 0, ["x", None, "y", "h", None])],
                         [None, "y", None, "x", "h", None])

    def test_errors(self):
        for call in (walk_seen, walk_places):
            walker_errors(self, lambda net: call(net, None, None))
            faults(lambda place: call(PATH, place, None), NoPlace, "thing",
                   [(thing, thing) for thing in ANY_OBJECTS + [3] if type(thing) is not int or not 0 <= thing < 3])
            pairs = [(thing, 0) for thing in ANY_OBJECTS if not isinstance(thing, (list, tuple))]
            for thing in ANY_OBJECTS + ["l", ("r",)]:
                if thing is not None:
                    pairs += [([thing], 0), (["r", "l", None, thing, None, thing], 3), (("r", None, "r", thing), 3)]
            pairs = [pair for pair in pairs if pair[0] != ("r", None, "r", "l")]
            faults(lambda row: call(PATH, 0, row), BadWalk, "index", pairs)
            for thing in (True, False, 1.5):
                faults(lambda row: call(two_way(["a", "a"], [(0, 1, 1, 0)]), 0, row), BadWalk, "index", [([thing], 0)])


def slow_parting(net, one, other):
    """All rows of doors that both can go, shorter ones first, each in the order of words."""
    for length in range(len(net)):
        rows = [()]
        for _ in range(length):
            rows = [row + (mark,) for row in rows for mark in marks(net, walk_places(net, one, row)[-1])
                    if door_of(net, walk_places(net, other, row)[-1], mark)]
        for row in ascending(rows):
            near, away = walk_seen(net, one, row), walk_seen(net, other, row)
            if near[:-1] == away[:-1] and near[-1] != away[-1]:
                return list(row)
    return None


class TestParting(unittest.TestCase):
    def test_first_of_the_shortest(self):
        met = set()
        for net in NETS:
            label = {place: at for at, lot in enumerate(kinds_for_ever(net)) for place in lot}
            for one, other in itertools.product(range(len(net)), repeat=2):
                told = parting_row(net=net, one=one, other=other)
                self.assertEqual(told, slow_parting(net, one, other))
                self.assertEqual(told is None, label[one] == label[other])
                if told is not None:
                    self.assertLess(len(told), len(net))
                    self.assertIs(type(told), list)
                met.add(None if told is None else len(told))
        self.assertLessEqual({None, 0, 1, 2}, met)

    def test_order_of_words(self):
        """Both doors part them; the first in the order of words is told: an integer ahead of a string."""
        net = two_way(["a", "a", "b", "c", "b", "c"], [(0, 2, "x", 0), (0, 3, 7, 0), (1, 4, 7, 0), (1, 5, "x", 0)])
        self.assertEqual(parting_row(net, 0, 1), [7])
        net = two_way(["a", "a", "b", "c", "b", "c"], [(0, 2, "x", 0), (0, 3, (), 0), (1, 4, (), 0), (1, 5, "x", 0)])
        self.assertEqual(parting_row(net, 0, 1), ["x"])

    def test_parted_by_the_door_behind(self):
        net = two_way(["a", "a", "b", "b"], [(0, 2, "x", "p"), (1, 3, "x", "q"), (2, 2, "q", "q"), (3, 3, "p", "p")])
        self.assertEqual(parting_row(net, 0, 1), ["x"])

    def test_errors(self):
        walker_errors(self, lambda net: parting_row(net, None, None))
        bad = [(thing, thing) for thing in ANY_OBJECTS + [3] if type(thing) is not int or not 0 <= thing < 3]
        faults(lambda one: parting_row(TRIANGLE, one, None), NoPlace, "thing", bad)
        faults(lambda other: parting_row(TRIANGLE, 0, other), NoPlace, "thing", bad)

    def test_limits(self):
        net = two_way(["a"] * 40, [(i, i + 1, "r", "l") for i in range(39)])
        self.assertEqual(parting_row(net, 19, 21), ["r"] * 18)
        self.assertEqual(len(walk_seen(net, 0, ["r"] * 39 + [None] * 21)), 61)


if __name__ == "__main__":
    unittest.main()
