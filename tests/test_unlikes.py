"""Points 109, 110: chances that all places are unlike, and throws of rings."""

import itertools
import math
import time
import unittest
from fractions import Fraction

from samefromhere.errors import BadChance, BadMany, BadPeriod, BadSides
from samefromhere.kinds import kinds_for_ever
from samefromhere.nets import Net
from samefromhere.throws import thrown
from samefromhere.unlikes import ring_throws, sides_for, unlike_chance
from tests.helpers import ANY_OBJECTS, LONE, R, S, faults, ring
from tests.test_throws import EMPTY, NETS, RING, bad_sides


def slow_chance(net, sides):
    good = 0
    for throw in itertools.product(range(sides), repeat=len(net)):
        good += len(kinds_for_ever(thrown(net, throw))) == len(net)
    return Fraction(good, sides ** len(net))


class TestUnlike(unittest.TestCase):
    def test_all_throws_gone_through(self):
        for net in NETS:
            for sides in (1, 2, 3) if len(net) < 5 else (1, 2):
                told = unlike_chance(net=net, sides=sides)
                self.assertEqual(Fraction(*told), slow_chance(net, sides))
                self.assertIs(type(told), tuple)
                self.assertEqual(math.gcd(*told), 1)
                self.assertGreater(told[1], 0)
        self.assertEqual([unlike_chance(LONE, 5), unlike_chance(S, 1), unlike_chance(R, 1)], [(1, 1), (0, 1), (0, 1)])

    def test_more_sides(self):
        for net in NETS:
            for one, other in itertools.product((1, 2, 3, 7), repeat=2):
                self.assertGreaterEqual(Fraction(*unlike_chance(net, one * other)), Fraction(*unlike_chance(net, one)))

    def test_sides_for_all_below_gone_through(self):
        met = set()
        for net in NETS:
            alike = len(kinds_for_ever(net)) < len(net)
            for chance in ((0, 1), (0, 7), (1, 1), (5, 5), (1, 2), (2, 4), (9, 10), (24, 25), (1, 100)):
                told = sides_for(net=net, chance=chance)
                if chance[0] == chance[1] and alike:
                    self.assertIsNone(told)
                    continue
                fitting = [sides for sides in range(1, told + 1)
                           if Fraction(*unlike_chance(net, sides)) >= Fraction(*chance)]
                self.assertEqual(fitting, [told])
                self.assertEqual(sides_for(net, list(chance)), told)
                met.add(told)
        self.assertLessEqual({1, 2, 3, 4}, met)

    def test_edges(self):
        self.assertEqual(sides_for(R, (0, 1)), 1)
        self.assertIsNone(sides_for(R, (1, 1)))
        self.assertEqual(sides_for(ring("abc"), (1, 1)), 1)
        self.assertEqual(sides_for(LONE, (3, 3)), 1)

    def test_errors(self):
        bad = [thing for thing in ANY_OBJECTS if not (isinstance(thing, tuple) and thing == (0, 5))]
        bad += [(1, 0), (0, 0), (-1, 2), (3, 2), (1,), (1, 2, 3), (True, 1), (0, True), (0, "1"), [None, 1], (0, -1), "01",
                (0, (1,)), {0: 1, 1: 1}]
        faults(lambda chance: sides_for(R, chance), BadChance, "thing", [(thing, thing) for thing in bad])
        faults(lambda sides: unlike_chance(R, sides), BadSides, "thing", bad_sides())

    def test_limits(self):
        begin = time.time()
        net = Net(["a"] * 6, [])
        told = sides_for(net, (999, 1000))
        self.assertGreater(told, 14000)
        self.assertGreaterEqual(Fraction(*unlike_chance(net, told)), Fraction(999, 1000))
        self.assertLess(Fraction(*unlike_chance(net, told - 1)), Fraction(999, 1000))
        self.assertEqual(unlike_chance(EMPTY, 10 ** 6)[1] % 10, 0)
        self.assertLess(time.time() - begin, 10)


class TestRings(unittest.TestCase):
    def test_by_the_net_itself(self):
        for many in range(1, 9):
            for period in [part for part in range(1, many + 1) if many % part == 0]:
                signs = [chr(97 + at % period) for at in range(many)]
                for sides in (1, 2, 3):
                    if sides ** many > 600:
                        continue
                    found = {}
                    for throw in itertools.product(range(sides), repeat=many):
                        kinds = len(kinds_for_ever(thrown(ring(signs), throw)))
                        found[kinds] = found.get(kinds, 0) + 1
                    told = ring_throws(many=many, period=period, sides=sides)
                    self.assertEqual(told, found)
                    self.assertEqual(list(told), sorted(found))
                    self.assertIs(type(told), dict)

    def test_edges(self):
        self.assertEqual(ring_throws(1, 1, 1), {1: 1})
        self.assertEqual(ring_throws(6, 6, 2), {6: 64})
        self.assertEqual(ring_throws(6, 2, 1), {2: 1})
        told = ring_throws(4, 1, 2)
        told.clear()
        self.assertEqual(ring_throws(4, 1, 2), {1: 2, 2: 2, 4: 12})
        self.assertEqual(len(kinds_for_ever(RING)), 1)

    def test_each_divisor(self):
        for many, period, sides in ((36, 1, 5), (60, 2, 3), (96, 4, 9)):
            told = ring_throws(many, period, sides)
            for part in range(period, many + 1, period):
                if many % part == 0:
                    self.assertEqual(sum(number for kinds, number in told.items() if part % kinds == 0), sides ** part)

    def test_errors(self):
        faults(lambda many: ring_throws(many, None, None), BadMany, "thing", bad_sides())
        bad = bad_sides() + [(thing, thing) for thing in (4, 5, 7, 12)]
        faults(lambda period: ring_throws(6, period, None), BadPeriod, "thing", bad)
        faults(lambda sides: ring_throws(6, 3, sides), BadSides, "thing", bad_sides())

    def test_limits(self):
        told = ring_throws(2000, 1, 31)
        self.assertEqual(sum(told.values()), 31 ** 2000)
        self.assertEqual(list(told), [part for part in range(1, 2001) if 2000 % part == 0])


if __name__ == "__main__":
    unittest.main()
