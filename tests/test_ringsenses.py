"""Points 72, 73: a plan for all rings of so many places, and how many there are."""

import itertools
import unittest

from samefromhere.errors import BadNumber
from samefromhere.kinds import kinds_for_ever
from samefromhere.plans import told
from samefromhere.ringaxes import ring_axes
from samefromhere.rings import door_ring, door_row
from samefromhere.ringsenses import count_barred, count_heads, sense_plan
from tests.helpers import ANY_OBJECTS, LOOPS, Counting, faults, samples


def goes_round(senses, doors):
    """Whether all doors lead round in one sense."""
    return doors == list(senses) or doors == [1 - sense for sense in senses]


class TestSensePlan(unittest.TestCase):
    def check(self, plan, signs, senses):
        doors = told(door_ring(signs, senses), plan, len(signs))
        self.assertTrue(all(type(door) is int and door in (0, 1) for door in doors))
        if not ring_axes(signs, senses):
            self.assertTrue(goes_round(senses, doors), (signs, senses, doors))

    def test_all_patterns_of_small_rings(self):
        for many in range(1, 7):
            plan = sense_plan(number=many)
            self.assertIsInstance(plan, tuple)
            self.assertEqual(len(plan), 4)
            for senses in itertools.product((0, 1), repeat=many):
                self.check(plan, ["s"] * many, senses)
                if many <= 4:
                    for signs in itertools.product([1, "a", ((), 0)], repeat=many):
                        self.check(plan, list(signs), senses)

    def test_larger_rings(self):
        for many in (7, 8, 9, 10):
            plan = sense_plan(many)
            for number in range(0, 2 ** many, 29):
                self.check(plan, ["s"] * many, [number >> at & 1 for at in range(many)])
            self.check(plan, ["a", 7] * (many // 2) + ["a"] * (many % 2), [0, 1, 1, 0, 0, 1, 0, 1, 1, 0][:many])

    def test_no_error_elsewhere(self):
        for number in (1, 3, 4):
            plan = sense_plan(number)
            for net in samples(30) + [LOOPS, door_ring(list("abcde"), [0, 1, 1, 0, 0]), door_row(["a"] * 3, [0, 0, 1])]:
                for rounds in (0, 1, 3, 6):
                    self.assertEqual(len(told(net, plan, rounds)), len(net))

    def test_asked_as_the_package_asks(self):
        count = Counting(sense_plan(4))
        told(door_ring(list("aabb"), [0, 1, 0, 0]), count.functions, 4)
        self.assertEqual(len(count.asked), len(set(count.asked)))

    def test_errors(self):
        faults(sense_plan, BadNumber, "thing", [(thing, thing) for thing in ANY_OBJECTS
                                                if type(thing) is not int or thing < 1])


class TestCounts(unittest.TestCase):
    def test_all_patterns(self):
        for number, many in [(1, 1), (1, 3), (2, 1), (2, 2), (2, 3), (3, 1), (3, 2), (4, 1), (4, 2), (5, 1), (6, 1),
                             (7, 1), (8, 1)]:
            barred = heads = 0
            for signs in itertools.product(range(many), repeat=number):
                for senses in itertools.product((0, 1), repeat=number):
                    barred += bool(ring_axes(signs, senses))
                    heads += len(kinds_for_ever(door_ring(signs, senses))) == number
            self.assertEqual(count_barred(number=number, many=many), barred)
            self.assertEqual(count_heads(number=number, many=many), heads)

    def test_told_as_the_document_tells(self):
        def square_free(number):
            primes = [p for p in range(2, number + 1) if number % p == 0 and all(p % q for q in range(2, p))]
            return 0 if any(number % (p * p) == 0 for p in primes) else (-1) ** len(primes)

        def new(d, many):
            return 0 if d % 2 else d // 2 * sum(square_free(d // e) * (2 * many) ** (e // 2)
                                                for e in range(2, d + 1, 2) if d % e == 0)

        for number in list(range(1, 40)) + [60, 72, 210, 360, 500]:
            for many in (1, 2, 9):
                self.assertEqual(count_barred(number, many), sum(new(d, many) for d in range(1, number + 1)
                                                                 if number % d == 0))
                self.assertEqual(count_heads(number, many),
                                 sum(square_free(number // d) * (2 * many) ** d for d in range(1, number + 1)
                                     if number % d == 0) - new(number, many))

    def test_errors(self):
        bad = [thing for thing in ANY_OBJECTS if type(thing) is not int or thing < 1]
        for call in (count_barred, count_heads):
            faults(lambda number: call(number, None), BadNumber, "thing", [(thing, thing) for thing in bad])
            faults(lambda many: call(4, many), BadNumber, "thing", [(thing, thing) for thing in bad])


if __name__ == "__main__":
    unittest.main()
