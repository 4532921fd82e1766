"""Points 3, 5, 7, 8, 9: words, nets, nets made of nets, shapes."""

import itertools
import unittest

from samefromhere.basics import is_word, read_word, word_key
from samefromhere.errors import BadNets, BadOrder, BadRoads, BadSigns, NoPlace
from samefromhere.madenets import backward, beside, doors_known, renamed, with_signs
from samefromhere.nets import Net, marks, roads_in, roads_out
from samefromhere.shapes import is_joined, is_strong, is_two_way
from tests.helpers import (ANY_OBJECTS, DOUBLE, LONE, LOOPS, ODD_WORDS, R, S, TWO_WAYS, as_lists, as_tuples, ascending,
                           compare_words, not_words, random_two_way, ring, samples, word_like)


class TestWords(unittest.TestCase):
    def test_what_is_a_word(self):
        for thing in ANY_OBJECTS:
            self.assertEqual(is_word(thing), word_like(thing), thing)
            self.assertEqual(is_word(("a", [thing])), word_like(thing), thing)

    def test_order(self):
        for one, other in itertools.product(ODD_WORDS, repeat=2):
            keys = word_key(one), word_key(other)
            self.assertEqual((keys[0] > keys[1]) - (keys[0] < keys[1]), compare_words(one, other), (one, other))

    def test_lists_are_tuples(self):
        for word in ODD_WORDS:
            self.assertEqual(read_word(as_lists(word)), read_word(word))
            self.assertEqual(read_word(as_lists(word))[0], word)

    def test_deep(self):
        word = ()
        for _ in range(400):
            word = [word]
        self.assertTrue(is_word(word))
        for _ in range(6000):
            word = [word]
        self.assertFalse(is_word([word, None]))
        word = []
        word.extend([word, word])
        self.assertFalse(is_word(word))


class TestNet(unittest.TestCase):
    def test_what_it_tells(self):
        signs = ["a", 3, [], ["x", [-1]]]
        roads = [[1, 0, "b", "a"], (0, 3, (), 1), (0, 3, "", 1), (0, 3, 5, [1, [2]]), (0, 3, "", 1), (2, 2, -1, -1)]
        net = Net(signs=signs, roads=roads)
        signs[0] = "changed"
        signs[3][1].append(None)
        roads[0][0] = 3
        roads.pop()
        for _ in range(2):
            self.assertEqual(net.signs(), ["a", 3, (), ("x", (-1,))])
            self.assertEqual(net.roads(), [(0, 3, 5, (1, (2,))), (0, 3, "", 1), (0, 3, "", 1), (0, 3, (), 1),
                                           (1, 0, "b", "a"), (2, 2, -1, -1)])
            self.assertEqual(len(net), 4)
            net.signs().append(1)
            net.roads().clear()

    def test_roads_ascend_in_the_order_of_words(self):
        for net in samples():
            self.assertIsInstance(net.roads(), list)
            self.assertEqual(net.roads(), ascending(net.roads()))
            self.assertTrue(all(isinstance(road, tuple) for road in net.roads()))
            for place in range(len(net)):
                self.assertEqual(roads_in(net=net, place=place), [road for road in net.roads() if road[1] == place])
                self.assertEqual(roads_out(net=net, place=place), [road for road in net.roads() if road[0] == place])
                found = ascending({road[2] for road in net.roads() if road[0] == place})
                self.assertEqual(marks(net=net, place=place), found)

    def test_equal(self):
        net = Net([1, ("a",)], [(0, 1, "", ""), (1, 0, 1, 1)])
        self.assertEqual(net, Net((1, ["a"]), ((1, 0, 1, 1), [0, 1, "", ""])))
        self.assertFalse(net != Net([1, ["a"]], net.roads()))
        others = [Net([1, ("a",)], [(0, 1, "", "")]), Net([1, ("b",)], net.roads()), Net([1, "a"], net.roads()),
                  Net([1, ("a",)], net.roads() + [(0, 1, "", "")]), Net([1, ("a",), 1], net.roads())]
        for other in others + ANY_OBJECTS + [net.signs(), (net.signs(), net.roads())]:
            self.assertFalse(net == other)
            self.assertTrue(net != other)

    def test_bad_signs(self):
        for thing in ANY_OBJECTS:
            if not isinstance(thing, (list, tuple)) or len(thing) == 0:
                with self.assertRaises(BadSigns) as caught:
                    Net(thing, None)
                self.assertEqual(caught.exception.index, 0)
        for thing in not_words():
            for ahead in range(3):
                with self.assertRaises(BadSigns) as caught:
                    Net(["a"] * ahead + [thing, None], [])
                self.assertEqual(caught.exception.index, ahead)

    def test_bad_roads(self):
        for thing in ANY_OBJECTS:
            if not isinstance(thing, (list, tuple)):
                with self.assertRaises(BadRoads) as caught:
                    Net(["a"], thing)
                self.assertEqual(caught.exception.index, 0)
        good = (0, 1, "", "")
        bad = [(0, 1, ""), (0, 1, "", "", ""), (0, 2, "", ""), (-1, 0, "", ""), (True, 0, "", ""), (0, False, "", ""),
               ("0", 0, "", ""), (0, None, "", ""), (0, 0, "", None), (0, 0, [True], ""), "0101", ([0], 0, "", "")]
        bad += [thing for thing in ANY_OBJECTS if thing != good]
        for thing in bad:
            for ahead in range(3):
                with self.assertRaises(BadRoads) as caught:
                    Net(["a", "b"], [good] * ahead + [thing, None])
                self.assertEqual(caught.exception.index, ahead)

    def test_no_place(self):
        for function in (roads_in, roads_out, marks):
            for thing in ANY_OBJECTS + [4, -1, "0", 1.5]:
                if thing is False or thing is True or thing not in (0, 1, 2, 3):
                    with self.assertRaises(NoPlace) as caught:
                        function(R, thing)
                    self.assertIs(caught.exception.thing, thing)


class TestMadeNets(unittest.TestCase):
    def test_renamed(self):
        net = Net(["a", "b", "c"], [(0, 1, "x", "y"), (2, 2, 0, 1), (1, 0, "", "")])
        self.assertEqual(renamed(net=net, order=[2, 0, 1]),
                         Net(["b", "c", "a"], [(2, 0, "x", "y"), (1, 1, 0, 1), (0, 2, "", "")]))
        self.assertEqual(renamed(net, (0, 1, 2)), net)

    def test_bad_order(self):
        cases = [([0, 1], 2), ([], 0), ([0, 0, 1], 1), ([0, 1, 3], 2), ([0, True, 1], 1), ([0, 1, 2, 0], 3),
                 ([0, 1, 2, 3], 3), ([0, 1, 2, None], 3), ([-1], 0), (["0", 0], 0), ([1, [0]], 1), ([2, LONE], 1)]
        cases += [(thing, 0) for thing in ANY_OBJECTS if not isinstance(thing, (list, tuple))]
        for order, index in cases:
            with self.assertRaises(BadOrder) as caught:
                renamed(ring("abc"), order)
            self.assertEqual(caught.exception.index, index, order)

    def test_beside(self):
        net = beside(nets=[S, LONE, S])
        self.assertEqual(net, Net(["x", "y", "y", "a", "x", "y", "y"],
                                  [(0, 1, "", ""), (0, 2, "", ""), (4, 5, "", ""), (4, 6, "", "")]))
        self.assertEqual(beside((R,)), R)

    def test_bad_nets(self):
        for thing in ANY_OBJECTS:
            if not isinstance(thing, (list, tuple)) or len(thing) == 0:
                with self.assertRaises(BadNets) as caught:
                    beside(thing)
                self.assertEqual(caught.exception.index, 0)
            if not isinstance(thing, Net):
                for ahead in range(3):
                    with self.assertRaises(BadNets) as caught:
                        beside([R] * ahead + [thing, S])
                    self.assertEqual(caught.exception.index, ahead)

    def test_doors_known(self):
        net = Net(["a", "b"], [(0, 1, 0, 0), (0, 1, 0, 0), (1, 1, 0, 0)])
        self.assertEqual(doors_known(net=net), Net([("a", 0, 2), ("b", 3, 1)], net.roads()))

    def test_with_signs(self):
        self.assertEqual(with_signs(net=S, signs=[1, [2], ()]), Net([1, (2,), ()], S.roads()))
        for signs, index in [([], 0), (None, 0), ("xyz", 0), ([1], 1), ([1, 2], 2), ([1] * 4, 3), ([1] * 7, 3),
                             ([1, None], 1), ([1, 1, 1, 1, True], 4), ([True], 0), ({}, 0), (S, 0)]:
            with self.assertRaises(BadSigns) as caught:
                with_signs(S, signs)
            self.assertEqual(caught.exception.index, index, signs)

    def test_backward(self):
        self.assertEqual(backward(net=Net(["a", "b"], [(0, 1, "o", "i"), (1, 1, 1, 2)])),
                         Net(["a", "b"], [(1, 0, "i", "o"), (1, 1, 2, 1)]))
        for net in samples():
            self.assertEqual(backward(backward(net)), net)


class TestShapes(unittest.TestCase):
    def test_two_way(self):
        for net in TWO_WAYS + [random_two_way(seed) for seed in range(20)]:
            self.assertIs(is_two_way(net=net), True)
            self.assertEqual(backward(net), net)
        for net in (R, S, Net(["a"], [(0, 0, "x", "y")]), Net(["a"], [(0, 0, "x", "x")] * 2),
                    Net(["a", "a"], [(0, 1, "x", "x"), (1, 0, "x", "x"), (0, 1, "x", "y"), (1, 0, "y", "x")]),
                    Net(["a", "a"], [(0, 1, "x", "y"), (1, 0, "x", "y")]), Net(["a"] * 2, DOUBLE.roads()[:-1])):
            self.assertIs(is_two_way(net), False)
        self.assertTrue(is_two_way(Net(["a"], [(0, 0, 1, "1"), (0, 0, "1", 1)])))

    def test_joined_and_strong(self):
        for net in samples():
            ways = {(p, p) for p in range(len(net))}
            roads = {road[:2] for road in net.roads()}
            both = roads | {(q, p) for p, q in roads}
            for told, roads_taken in ((is_joined(net=net), both), (is_strong(net=net), roads)):
                reach = set(ways)
                for _ in range(len(net)):
                    reach |= {(p, r) for p, q in reach for s, r in roads_taken if q == s}
                whole = len(reach) == len(net) ** 2
                self.assertIs(told, whole)
            if is_two_way(net) and is_joined(net):
                self.assertTrue(is_strong(net))
        self.assertTrue(is_joined(LONE) and is_strong(LONE) and is_two_way(LONE))
        self.assertFalse(is_joined(Net(["a", "a"], [])))
        self.assertTrue(is_joined(S) and not is_strong(S))
        self.assertTrue(is_strong(R) and is_strong(LOOPS))
        self.assertFalse(is_strong(Net(["a"] * 3, [(0, 1, 0, 0), (1, 0, 0, 0), (2, 0, 0, 0)])))
