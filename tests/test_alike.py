"""Points 16, 17: alike places, closed lists of pairs."""

import itertools
import random
import unittest

from samefromhere.alike import alike_for, alike_pairs, is_closed
from samefromhere.errors import NoPlace
from samefromhere.nets import Net
from tests.helpers import ANY_OBJECTS, LONE, R, S, as_lists, random_net, ring, samples, slow_view


def couples(many=40):
    nets = [random_net(seed, most=4, signs=1, road_words=1, roads=5) for seed in range(many)]
    return list(zip(nets, nets[1:])) + [(R, ring("ab")), (R, R), (S, S), (ring("aa"), ring("aaa")), (LONE, S)]


def slow_closed(one, other, pairs):
    """Point 17 by going through all pairings."""
    for p, q in pairs:
        near = [road for road in one.roads() if road[1] == p]
        away = [road for road in other.roads() if road[1] == q]
        if one.signs()[p] != other.signs()[q] or len(near) != len(away):
            return False
        if not any(all(a[2:] == b[2:] and (a[0], b[0]) in pairs for a, b in zip(near, order))
                   for order in itertools.permutations(away)):
            return False
    return True


class TestAlikeFor(unittest.TestCase):
    def test_by_views(self):
        for one, other in couples():
            most = len(one) + len(other) - 2
            for place, far in itertools.product(range(len(one)), range(len(other))):
                equal = [slow_view(one, place, r) == slow_view(other, far, r) for r in range(most + 2)]
                found = None if all(equal) else equal.index(False) - 1
                self.assertEqual(alike_for(one=one, place=place, other=other, far=far), found)
                self.assertTrue(found is None or found <= most)

    def test_edges(self):
        self.assertEqual(alike_for(R, 0, R, 1), -1)
        self.assertIsNone(alike_for(R, 0, R, 2))
        row = Net(["a"] * 5, [(i, i + 1, "", "") for i in range(4)])
        self.assertEqual(alike_for(row, 3, row, 4), 3)
        self.assertEqual(alike_for(row, 4, ring("aaaaa"), 0), 4)
        self.assertEqual(alike_for(row, 4, ring("a"), 0), 4)
        self.assertEqual(alike_for(Net(["a"], []), 0, Net([("a",)], []), 0), -1)

    def test_limits(self):
        roads = [(i, i + 1, "", "") for i in range(39)] + [(0, 0, "", "")] * 80 + [(0, 1, "", "")] * 80
        one = Net(["a"] * 40, roads)
        other = Net(["a"] * 40, roads + [(39, 39, 1, 1)])
        self.assertEqual(alike_for(one, 39, other, 38), 37)
        self.assertEqual(alike_for(one, 39, other, 39), 0)
        self.assertEqual(alike_pairs(one, other), [(place, place) for place in range(39)])
        self.assertTrue(is_closed(one, other, alike_pairs(one, other)))
        whole = Net(["a"] * 14, [(i, j, "", "") for i in range(14) for j in range(14)])
        self.assertEqual(len(alike_pairs(whole, whole)), 196)
        self.assertTrue(is_closed(whole, whole, alike_pairs(whole, whole)))
        self.assertFalse(is_closed(whole, whole, alike_pairs(whole, whole)[14:]))

    def test_no_place(self):
        for thing in ANY_OBJECTS + [3]:
            if isinstance(thing, bool) or not isinstance(thing, int) or not 0 <= thing < 3:
                with self.assertRaises(NoPlace) as caught:
                    alike_for(S, thing, R, None)
                self.assertIs(caught.exception.thing, thing)
                with self.assertRaises(NoPlace) as caught:
                    alike_for(R, 3, S, thing)
                self.assertIs(caught.exception.thing, thing)


class TestPairs(unittest.TestCase):
    def test_all_alike_pairs(self):
        for one, other in couples():
            pairs = alike_pairs(one=one, other=other)
            self.assertEqual(pairs, [(p, q) for p in range(len(one)) for q in range(len(other))
                                     if alike_for(one, p, other, q) is None])
            self.assertIsInstance(pairs, list)
            self.assertTrue(all(isinstance(pair, tuple) for pair in pairs))
            self.assertTrue(is_closed(one=one, other=other, thing=pairs))
            self.assertTrue(is_closed(one, other, as_lists(pairs)))

    def test_closed_by_all_pairings(self):
        pick = random.Random(5)
        met = set()
        for one, other in couples(60):
            everything = list(itertools.product(range(len(one)), range(len(other))))
            best = alike_pairs(one, other)
            for _ in range(12):
                pairs = pick.sample(everything if pick.random() < 0.3 else best or everything,
                                    pick.randint(0, min(3, len(best or everything))))
                told = is_closed(one, other, pairs)
                self.assertEqual(told, slow_closed(one, other, pairs))
                met.add(told)
                if told:
                    self.assertLessEqual(set(pairs), set(best))
        self.assertEqual(met, {True, False})

    def test_a_pairing_is_looked_for(self):
        """Sender 0 could take either, sender 1 just the one that 0 would take first."""
        one = Net(["a", "a", "a"], [(0, 2, "", ""), (1, 2, "", "")])
        bare = [(0, 0), (0, 1), (1, 0), (2, 2)]
        self.assertTrue(is_closed(one, one, bare))
        self.assertFalse(is_closed(one, one, [(0, 0), (1, 0), (2, 2)]))
        self.assertTrue(is_closed(one, one, [(0, 1), (1, 0), (2, 2)]))

    def test_marks_are_paired(self):
        for mark, told in ((("x", "y"), True), (("y", "x"), False), (("x", "x"), False), (("y", "y"), False)):
            one = Net(["a", "a"], [(0, 1, "x", "y")])
            other = Net(["a", "a"], [(0, 1, *mark)])
            self.assertIs(is_closed(one, other, [(0, 0), (1, 1)]), told)
        one = Net(["a", "a"], [(0, 1, "x", ""), (0, 1, "x", ""), (0, 1, "y", "")])
        other = Net(["a", "a"], [(0, 1, "x", ""), (0, 1, "y", ""), (0, 1, "y", "")])
        self.assertIs(is_closed(one, other, [(0, 0), (1, 1)]), False)

    def test_any_object(self):
        good = [(0, 0), (2, 2), (1, 1), (3, 3)]
        self.assertTrue(is_closed(R, R, good))
        self.assertTrue(is_closed(R, R, []))
        self.assertTrue(is_closed(R, R, tuple(good)))
        for thing in ANY_OBJECTS:
            told = is_closed(R, R, thing)
            self.assertIs(told, thing == [] or thing == ())
            self.assertIs(is_closed(R, R, good + [thing]), False)
        for place in (True, None, "0", -1, 4, (0,), LONE):
            self.assertIs(is_closed(R, R, good[:2] + [(place, 3)] + good[2:]), False)
            self.assertIs(is_closed(R, R, good[:2] + [(3, place)] + good[2:]), False)
        self.assertIs(is_closed(R, R, [{0: 0, 1: 1}] + good[1:]), False)
        for thing in (good + [[0, 0]], [(0, 0, 0)], [(0,)], ["00"], [(0, 4)], [(True, 0)] + good[1:], [(0, 1)],
                      good + [(0, -1)]):
            self.assertIs(is_closed(R, R, thing), False)
