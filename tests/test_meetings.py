"""Points 99, 100: two walkers with one plan, and a plan by which unlike ones meet."""

import itertools
import random
import time
import unittest

from samefromhere.errors import BadNumber, BadWalker, NoMove, NoPlace, NotJoined, NotTwoWay
from samefromhere.kinds import kinds_for_ever
from samefromhere.meetings import meeting_plan, two_walk
from samefromhere.nets import Net
from samefromhere.walks import walk_places, walk_seen
from tests.helpers import ANY_OBJECTS, LONE, PATH, TWO_WAYS, as_lists, faults, random_shut, random_two_way, two_way
from tests.test_walks import walker_errors

RING = two_way(["a"] * 4, [(i, (i + 1) % 4, "r", "l") for i in range(4)])
# A lift of two places, not even all round: places of one kind see all from unlike spots.
TWISTED = two_way(["a", "b", "a", "b"], [(0, 1, 0, 0), (2, 3, 0, 0), (0, 3, 1, 1), (2, 1, 1, 1)])
NETS = TWO_WAYS + [RING, TWISTED, two_way(["a", "a", "a", "b"], [(i, (i + 1) % 4, "r", "l") for i in range(4)])]
NETS += [random_two_way(seed, 4) for seed in range(60)] + [random_shut(seed, 4) for seed in range(10)]
SMALL = [net for net in NETS if len(net) <= 4 and len(net.roads()) <= 8]


def labels(net):
    return {place: at for at, lot in enumerate(kinds_for_ever(net)) for place in lot}


def chance_plan(seed):
    """A plan that goes by all that it has seen, as by chance."""
    def plan(seen):
        pick = random.Random(str((seed, seen)))
        return pick.choice(list(seen[-1][1]) + [None])

    return plan


def slow_two_walk(net, plan, one, other, moves):
    rows = ([], [])
    pairs = [(one, other)]
    while pairs[-1][0] != pairs[-1][1] and len(pairs) <= moves:
        for row, place in zip(rows, (one, other)):
            row.append(plan(tuple(walk_seen(net, place, row))))
        pairs.append((walk_places(net, one, rows[0])[-1], walk_places(net, other, rows[1])[-1]))
    return pairs


class TestTwoWalk(unittest.TestCase):
    def test_runs(self):
        met = set()
        for net in SMALL[:40]:
            for seed in range(3):
                for one, other in itertools.product(range(len(net)), repeat=2):
                    for moves in (0, 1, 6):
                        told = two_walk(net=net, plan=chance_plan(seed), one=one, other=other, moves=moves)
                        self.assertEqual(told, slow_two_walk(net, chance_plan(seed), one, other, moves))
                        ends = told[-1][0] == told[-1][1]
                        met.add((ends, one == other))
                        if not ends:
                            self.assertEqual(len(told), moves + 1)
                        self.assertFalse(any(near == far for near, far in told[:-1]))
        self.assertEqual(met, {(True, True), (True, False), (False, False)})

    def test_alike_ones_never_meet(self):
        for net in SMALL:
            label = labels(net)
            for one, other in itertools.combinations(range(len(net)), 2):
                if label[one] == label[other]:
                    for seed in range(3):
                        self.assertEqual(len(two_walk(net, chance_plan(seed), one, other, 20)), 21)

    def test_edges(self):
        def never(seen):
            raise AssertionError

        self.assertEqual(two_walk(PATH, never, 1, 1, 5), [(1, 1)])
        self.assertEqual(two_walk(PATH, never, 0, 2, 0), [(0, 2)])
        self.assertEqual(two_walk(PATH, lambda seen: None, 0, 2, 3), [(0, 2)] * 4)
        # Passing on a road is no meeting.
        pair = two_way(["a", "b"], [(0, 1, "d", "d")])
        self.assertEqual(two_walk(pair, lambda seen: "d", 0, 1, 2), [(0, 1), (1, 0), (0, 1)])
        self.assertEqual(two_walk(pair, lambda seen: "d" if seen[0][0] == "a" else None, 0, 1, 9), [(0, 1), (1, 1)])

    def test_moves_are_lists_too(self):
        net = two_way(["a", "b"], [(0, 1, ("d", ()), ("d", ()))])
        self.assertEqual(two_walk(net, lambda seen: ["d", []], 0, 1, 1), [(0, 1), (1, 0)])

    def test_asked_once_for_all_seen(self):
        for net in SMALL:
            for one, other in itertools.combinations(range(len(net)), 2):
                asked = []

                def plan(seen):
                    asked.append(seen)
                    return chance_plan(3)(seen)

                pairs = two_walk(net, plan, one, other, 8)
                self.assertEqual(len(asked), len(set(asked)))
                self.assertTrue(all(type(seen) is tuple and all(type(row) is tuple for row in seen) for seen in asked))
                self.assertEqual(max([len(seen) for seen in asked], default=0), len(pairs) - 1)

    def test_errors_in_order(self):
        walker_errors(self, lambda net: two_walk(net, None, None, None, None))
        faults(lambda plan: two_walk(PATH, plan, None, None, None), BadWalker, "thing",
               [(thing, thing) for thing in ANY_OBJECTS if not callable(thing)])
        places = [(thing, thing) for thing in ANY_OBJECTS + [3] if type(thing) is not int or not 0 <= thing < 3]
        faults(lambda one: two_walk(PATH, len, one, None, None), NoPlace, "thing", places)
        faults(lambda other: two_walk(PATH, len, 0, other, None), NoPlace, "thing", places)
        faults(lambda moves: two_walk(PATH, len, 0, 0, moves), BadNumber, "thing",
               [(thing, thing) for thing in ANY_OBJECTS if type(thing) is not int or thing < 0])

    def test_no_move(self):
        for thing in ANY_OBJECTS:
            if thing is not None:
                faults(lambda told: two_walk(PATH, lambda seen: told, 0, 2, 1), NoMove, "thing", [(thing, thing)])
                self.assertEqual(two_walk(PATH, lambda seen: thing, 0, 2, 0), [(0, 2)])

    def test_which_no_move_comes_first(self):
        def plan(seen):
            asked.append(seen[0][1])
            return ["none", len(seen), list(seen[0][1])] if len(seen) > 1 else None

        for one, other, held in ((0, 1, ["r"]), (1, 0, ["l", "r"])):
            asked = []
            with self.assertRaises(NoMove) as caught:
                two_walk(PATH, plan, one, other, 5)
            self.assertEqual(caught.exception.thing, ["none", 2, held])
            self.assertEqual(len(asked), 3)

    def test_errors_go_through(self):
        def plan(seen):
            raise KeyError

        with self.assertRaises(KeyError):
            two_walk(PATH, plan, 0, 1, 1)


class TestMeetingPlan(unittest.TestCase):
    def test_unlike_ones_meet(self):
        met = set()
        for net in SMALL:
            plan, moves = meeting_plan(net=net)
            label = labels(net)
            self.assertLessEqual(moves, 600)
            self.assertGreaterEqual(moves, 0)
            for one, other in itertools.product(range(len(net)), repeat=2):
                pairs = two_walk(net, plan, one, other, moves)
                meets = pairs[-1][0] == pairs[-1][1]
                self.assertEqual(meets, one == other or label[one] != label[other])
                met.add((meets, one == other))
                # Who began alike go on, and never do what is no move.
                self.assertEqual(two_walk(net, plan, one, other, moves + 5)[:len(pairs)], pairs)
        self.assertEqual(met, {(True, True), (True, False), (False, False)})

    def test_the_same_each_time(self):
        for net in SMALL[:20]:
            (plan, moves), (again, more) = meeting_plan(net), meeting_plan(Net(as_lists(net.signs()), net.roads()[::-1]))
            self.assertEqual(moves, more)
            for place in range(len(net)):
                row = []
                for _ in range(moves):
                    seen = walk_seen(net, place, row)
                    self.assertEqual(plan(tuple(seen)), again(as_lists(seen)))
                    row.append(plan(tuple(seen)))

    def test_types(self):
        told = meeting_plan(LONE)
        self.assertIs(type(told), tuple)
        self.assertEqual(len(told), 2)
        self.assertTrue(callable(told[0]))
        self.assertIs(type(told[1]), int)
        self.assertIsNone(told[0]((("z", (), None),)))

    def test_errors(self):
        walker_errors(self, meeting_plan)
        faults(meeting_plan, NotJoined, "thing", [(net, net) for net in (two_way(["a", "a"], []), Net(
            ["a", "b", "c"], [(0, 1, 0, 0), (1, 0, 0, 0)]))])

    def test_limits(self):
        loops = two_way(["a"] * 4, [(0, 1, 0, 0), (1, 2, 1, 0), (2, 3, 1, 0), (3, 3, 1, 1), (0, 0, 1, 1)])
        for net in (loops, TWISTED, random_two_way(5, 9), two_way(["a"] * 9, [(i, i + 1, "r", "l") for i in range(8)])):
            plan, moves = meeting_plan(net)
            label = labels(net)
            for one, other in itertools.combinations(range(len(net)), 2):
                pairs = two_walk(net, plan, one, other, moves)
                self.assertEqual(pairs[-1][0] == pairs[-1][1], label[one] != label[other])

    def test_long_runs(self):
        begin = time.time()
        plan, _ = meeting_plan(RING)
        self.assertEqual(len(two_walk(RING, plan, 0, 1, 600)), 601)
        self.assertEqual(two_walk(RING, lambda seen: "r", 0, 2, 600)[-1], (0, 2))
        self.assertLess(time.time() - begin, 10)


class TestExample(unittest.TestCase):
    def test_no_two_meet_on_a_ring_of_alike_places(self):
        plan, moves = meeting_plan(RING)
        for one, other in itertools.combinations(range(4), 2):
            for each in (plan, chance_plan(1), lambda seen: "r"):
                self.assertEqual(len(two_walk(RING, each, one, other, moves + 30)), moves + 31)


if __name__ == "__main__":
    unittest.main()
