"""Points 107, 108: throws, and how many of them make just which places alike."""

import itertools
import unittest

from samefromhere.errors import BadParting, BadSides, BadThrow, NotEven
from samefromhere.kinds import kinds_for_ever
from samefromhere.nets import Net
from samefromhere.partings import even_partings, is_even
from samefromhere.throws import throw_counts, thrown, throws_of, throws_with
from tests.helpers import (ANY_OBJECTS, LONE, R, S, TWO_WAYS, all_partings, as_lists, as_tuples, faults, random_net, ring,
                           two_way)

RING = ring("aaaa")
EMPTY = Net(["a"] * 4, [])
NETS = [R, S, LONE, RING, EMPTY, ring("aaaaa"), ring("aba"), Net(["a", "a"], [(0, 1, 0, 0)])] + TWO_WAYS
NETS += [random_net(seed, most=4, signs=1, road_words=1, roads=5) for seed in range(25)]
NETS += [random_net(seed, most=4, signs=2) for seed in range(25, 35)]


def bad_sides():
    return [(thing, thing) for thing in ANY_OBJECTS if type(thing) is not int or thing < 1]


class TestThrown(unittest.TestCase):
    def test_signs(self):
        net = Net(["a", ("b", 1), "a"], [(0, 1, "x", ()), (1, 1, 0, 0)])
        for throw in ((0, 7, 10 ** 8), [0, 7, 10 ** 8]):
            told = thrown(net=net, throw=throw)
            self.assertEqual(told, Net([("a", 0), (("b", 1), 7), ("a", 10 ** 8)], net.roads()))

    def test_bad_throw(self):
        pairs = [(thing, 0) for thing in ANY_OBJECTS if not isinstance(thing, (list, tuple))]
        for thing in ANY_OBJECTS:
            if type(thing) is not int or thing < 0:
                pairs += [([thing], 0), ((0, 1, thing, thing), 2), ([0] * 9 + [thing], 9)]
        pairs += [([], 0), ((), 0), ([0], 1), ((0, 0, 0), 3), ([0] * 5, 4), ((0,) * 9, 4)]
        faults(lambda throw: thrown(R, throw), BadThrow, "index", pairs)

    def test_throws_of(self):
        for net in NETS[:10]:
            for sides in (1, 2, 3):
                told = throws_of(net=net, sides=sides)
                self.assertEqual(told, list(itertools.product(range(sides), repeat=len(net))))
        self.assertEqual(throws_of(LONE, 4), [(0,), (1,), (2,), (3,)])
        faults(lambda sides: throws_of(R, sides), BadSides, "thing", bad_sides())


class TestCounts(unittest.TestCase):
    def test_all_throws_gone_through(self):
        most = 0
        for net in NETS:
            for sides in (1, 2, 3) if len(net) < 5 else (1, 2):
                found = {}
                for throw in itertools.product(range(sides), repeat=len(net)):
                    lots = kinds_for_ever(thrown(net, throw))
                    self.assertTrue(is_even(net, lots))
                    found[as_tuples(lots)] = found.get(as_tuples(lots), 0) + 1
                told = throw_counts(net=net, sides=sides)
                wanted = [(as_tuples(parting), found[as_tuples(parting)]) for parting in even_partings(net)
                          if as_tuples(parting) in found]
                self.assertEqual(told, wanted)
                self.assertTrue(all(type(pair) is tuple and type(pair[0]) is tuple for pair in told))
                most = max(most, len(told))
                for parting in even_partings(net):
                    number = found.get(as_tuples(parting), 0)
                    self.assertEqual(throws_with(net=net, parting=parting, sides=sides), number)
                    self.assertEqual(throws_with(net, as_tuples(parting), sides), number)
        self.assertGreater(most, 5)

    def test_many_sides(self):
        for net in NETS[:12]:
            counts = throw_counts(net, 10 ** 6)
            self.assertEqual(sum(number for _, number in counts), 10 ** (6 * len(net)))
        # Four alike places, no road: all unlike is one number each.
        self.assertEqual(throws_with(EMPTY, [[0], [1], [2], [3]], 100), 100 * 99 * 98 * 97)
        self.assertEqual(throws_with(EMPTY, [[0, 2], [1, 3]], 100), 100 * 99)
        self.assertEqual(throws_with(EMPTY, [[0, 2], [1, 3]], 1), 0)

    def test_errors(self):
        for thing in ANY_OBJECTS:
            if not isinstance(thing, (list, tuple)):
                faults(lambda parting: throws_with(R, parting, None), BadParting, "index", [(thing, 0)])
            faults(lambda parting: throws_with(R, parting, None), BadParting, "index", [([[0, 2], thing], 1)])
        faults(lambda parting: throws_with(R, parting, None), BadParting, "index",
               [([[0]], 1), ([[1], [0]], 1), ([[0, 1], [1, 2]], 1), ([], 0), ([[0, 1, 2, 3], [4]], 1)])
        for net in NETS:
            for parting in all_partings(len(net)):
                parting = sorted(parting)
                if not is_even(net, parting):
                    with self.assertRaises(NotEven):
                        throws_with(net, parting, None)
        with self.assertRaises(NotEven) as caught:
            throws_with(R, [[0, 1], [2, 3]], 2)
        self.assertEqual([caught.exception.one, caught.exception.other], [0, 1])
        faults(lambda sides: throws_with(R, [[0, 2], [1, 3]], sides), BadSides, "thing", bad_sides())
        faults(lambda sides: throw_counts(R, sides), BadSides, "thing", bad_sides())

    def test_limits(self):
        net = Net(["a"] * 6, [])
        counts = throw_counts(net, 10 ** 6)
        self.assertEqual(len(counts), 203)
        self.assertEqual(counts[0], (((0, 1, 2, 3, 4, 5),), 10 ** 6))
        self.assertEqual(throws_with(net, [[0, 1], [2, 3], [4, 5]], 10), 720)
        self.assertEqual(throws_with(two_way(["a"] * 6, [(i, (i + 1) % 6, "r", "l") for i in range(6)]),
                                     as_lists([[0, 2, 4], [1, 3, 5]]), 10 ** 6), 10 ** 12 - 10 ** 6)


if __name__ == "__main__":
    unittest.main()
