"""Points 22, 23: even partings."""

import itertools
import random
import unittest

from samefromhere.errors import BadParting, NotEven
from samefromhere.kinds import kinds_for_ever
from samefromhere.leastnets import is_map, least_net, maps_over
from samefromhere.madenets import renamed
from samefromhere.nets import Net
from samefromhere.partings import even_partings, is_even, joined_partings, made_even, pressed
from tests.helpers import (ANY_OBJECTS, R, S, all_partings, as_tuples, random_net, ring, samples, slow_even,
                           slow_like_roads)


def small(many=40):
    return [random_net(seed, most=5, signs=1, road_words=1, roads=6) for seed in range(many)] + [
        R, S, ring("aaaa"), ring("aaaaaa"), Net(["a"] * 4, []), Net(["a", "b", "a"], [(0, 0, 1, 1), (2, 2, 1, 1)])]


def finer(one, other):
    return all(any(set(lot) <= set(whole) for whole in other) for lot in one)


class TestEven(unittest.TestCase):
    def test_all_even_ones(self):
        for net in small():
            found = [parting for parting in all_partings(len(net)) if slow_even(net, parting)]
            told = even_partings(net=net)
            self.assertEqual(told, sorted(found, key=lambda parting: (len(parting), parting)))
            self.assertEqual(told[0], kinds_for_ever(net))
            for parting in all_partings(len(net)):
                self.assertIs(is_even(net=net, thing=parting), parting in found)
                self.assertIs(is_even(net, as_tuples(parting)), parting in found)

    def test_made_even(self):
        for net in small():
            even = even_partings(net)
            for parting in all_partings(len(net)):
                within = [other for other in even if finer(other, parting)]
                self.assertEqual(made_even(net=net, parting=parting), within[0])
                if len(within) > 1:
                    self.assertLess(len(within[0]), len(within[1]))

    def test_seven_places(self):
        self.assertEqual(len(even_partings(Net(["a"] * 7, []))), 877)
        self.assertEqual(len(even_partings(ring("a" * 7))), 2)

    def test_maps_of_partings(self):
        """Images of a map part the net evenly; so all that a net lies over are pressed ones."""
        for net in small(25):
            for base in [pressed(net, parting) for parting in even_partings(net)] + small(10):
                for images in maps_over(net, base):
                    lots = {}
                    for place, image in enumerate(images):
                        lots.setdefault(image, []).append(place)
                    parting = sorted(lots.values())
                    self.assertTrue(is_even(net, parting))
                    if len(lots) == len(base):
                        order = [images[lot[0]] for lot in parting]
                        self.assertEqual(renamed(pressed(net, parting), order), base)


class TestPressed(unittest.TestCase):
    def test_pressed(self):
        for net in small():
            for parting in even_partings(net):
                base = pressed(net=net, parting=parting)
                images = [at for place in range(len(net)) for at, lot in enumerate(parting) if place in lot]
                self.assertTrue(is_map(net, base, images))
                self.assertEqual(len(base), len(parting))
            self.assertEqual(least_net(pressed(net, even_partings(net)[0])), least_net(net))
        self.assertEqual(pressed(ring("aaaaaa"), [[0, 2, 4], [1, 3, 5]]), ring("aa"))
        self.assertEqual(pressed(ring("aaaa"), ((0, 1, 2, 3),)), ring("a"))

    def test_not_even(self):
        pick = random.Random(3)
        count = 0
        for net in small():
            for parting in all_partings(len(net)):
                if not slow_even(net, parting) and pick.random() < 0.5:
                    unlike = [(one, other) for lot in parting for one, other in itertools.combinations(lot, 2)
                              if net.signs()[one] != net.signs()[other]
                              or not slow_like_roads(net, parting, one, other)]
                    with self.assertRaises(NotEven) as caught:
                        pressed(net, parting)
                    self.assertEqual((caught.exception.one, caught.exception.other), min(unlike))
                    count += 1
        self.assertGreater(count, 100)


class TestErrors(unittest.TestCase):
    def cases(self):
        good = [[0, 2], [1, 3]]
        cases = [([], 0), ([[0, 2], [1]], 2), ([[0, 1, 2]], 1), ([[0, 2], []], 1), ([[]], 0), ([[0, 2], [3, 1]], 1),
                 ([[2, 0], [1, 3]], 0), ([[0, 2], [1, 2]], 1), ([[0, 2], [1, 3], [0]], 2), ([[0, 2], [1, 4]], 1),
                 ([[0, 2], [1, True]], 1), ([[0, 0, 2], [1, 3]], 0), ([[0, 3], [2], [1]], 2), ([[1], [0]], 1),
                 ([[1], [2]], 2), ([[0, 2], "13"], 1), ([[0, 2], [1, None]], 1), ([[0, 2], [1], 3], 2),
                 ([[0, 2], [1, 3], []], 2), ([0, 1, 2, 3], 0), ([[0, 2], [1, [3]]], 1), ([[-1, 0]], 0)]
        cases += [(thing, 0) for thing in ANY_OBJECTS if not isinstance(thing, (list, tuple))]
        cases += [([[0, 1]] + [thing], 1) for thing in ANY_OBJECTS]
        return good, cases

    def test_bad_parting(self):
        good, cases = self.cases()
        for parting, index in cases:
            self.assertIs(is_even(R, parting), False)
            for function in (lambda: made_even(R, parting), lambda: pressed(R, parting),
                             lambda: joined_partings(R, parting, None), lambda: joined_partings(R, good, parting)):
                with self.assertRaises(BadParting) as caught:
                    function()
                self.assertEqual(caught.exception.index, index, parting)

    def test_bad_parting_comes_ahead_of_not_even(self):
        with self.assertRaises(BadParting):
            pressed(R, [[0, 1], [2]])
        with self.assertRaises(NotEven):
            pressed(R, [[0, 1], [2], [3]])


class TestJoined(unittest.TestCase):
    def test_joined(self):
        for net in small(30):
            even = even_partings(net)
            for one, other in itertools.product(even[:6], repeat=2):
                told = joined_partings(net=net, one=one, other=other)
                self.assertTrue(is_even(net, told))
            partings = all_partings(len(net))
            for one, other in zip(partings, partings[::-1]):
                told = joined_partings(net, one, other)
                above = [parting for parting in partings if finer(one, parting) and finer(other, parting)]
                self.assertIn(told, above)
                self.assertTrue(all(finer(told, parting) for parting in above))
        self.assertEqual(joined_partings(ring("aaaaaa"), [[0, 3], [1, 4], [2, 5]], [[0, 2, 4], [1, 3, 5]]),
                         [[0, 1, 2, 3, 4, 5]])

    def test_limits(self):
        net = Net(["a"] * 20, [(i, (i + 1) % 20, "", "") for i in range(20)] * 3)
        self.assertEqual(made_even(net, [[0], list(range(1, 20))]), [[place] for place in range(20)])
        self.assertEqual(made_even(net, [list(range(20))]), [list(range(20))])
        self.assertEqual(made_even(net, [[0, 10], [i for i in range(20) if i % 10]]),
                         [[i, i + 10] for i in range(10)])


class TestSamples(unittest.TestCase):
    def test_kinds_for_ever_are_even(self):
        for net in samples(20):
            self.assertTrue(is_even(net, kinds_for_ever(net)))
            self.assertEqual(made_even(net, [list(range(len(net)))]), kinds_for_ever(net))
