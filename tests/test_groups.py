"""Points 78, 79, 81 to 83, 85: groups, steps, subgroups, quotients, mirrors, and nets by turns."""

import itertools
import math
import random
import unittest

from samefromhere.errors import BadModuli, BadSigns, BadSteps, NoGroup, NotWhole
from samefromhere.groups import diagonal_form, elements_of, mirrors, quotient, steps_to, subgroups
from samefromhere.nets import Net
from samefromhere.patterns import (apart_answers, mirrored_kinds, own_turns, pattern_counts, patterns_of, rounds_to_part,
                                   turn_base, turn_between)
from samefromhere.shapes import is_strong, is_two_way
from samefromhere.turnnets import crowd_net, door_net, turn_net
from tests.helpers import ANY_OBJECTS, as_lists, faults, not_words

GROUPS = [[1], [2], [3], [4], [6], [1, 1], [2, 2], [2, 3], [4, 2], [1, 3], [3, 3], [2, 2, 2], [2, 1, 3], [2, 4, 2],
          [12], [2, 6]]
STEPS = [([1], [(0,)]), ([1], [(0,), (0,)]), ([2], [(1,)]), ([3], [(1,), (1,)]), ([4], [(1,), (3,)]), ([4], [(3,), (0,)]),
         ([6], [(2,), (3,)]), ([6], [(1,), (5,), (3,)]), ([2, 2], [(0, 1), (1, 0)]), ([2, 2], [(1, 1), (0, 1), (1, 1)]),
         ([2, 3], [(1, 1)]), ([4, 2], [(1, 0), (0, 1), (3, 0)]), ([3, 3], [(1, 0), (0, 1)]), ([1, 3], [(0, 2)]),
         ([2, 2, 2], [(1, 0, 0), (0, 1, 0), (0, 0, 1)]), ([5], [(1,), (4,)]), ([8], [(1,), (7,), (3,), (5,)]),
         ([2, 1, 3], [(1, 0, 1), (0, 0, 1)])]


def added(moduli, one, other):
    return tuple((x + y) % m for x, y, m in zip(one, other, moduli))


def all_elements(moduli):
    return list(itertools.product(*[range(m) for m in moduli]))


def slow_subgroups(moduli):
    found = []
    elements = all_elements(moduli)
    for size in range(1, len(elements) + 1):
        for lot in itertools.combinations(elements, size):
            if lot[0] == elements[0] and all(added(moduli, x, y) in lot for x in lot for y in lot):
                found.append(list(lot))
    return found


def moduli_pairs():
    pairs = [(thing, 0) for thing in ANY_OBJECTS if not isinstance(thing, (list, tuple))] + [([], 0), ((), 0), ("12", 0)]
    for thing in ANY_OBJECTS:
        if type(thing) is not int or thing < 1:
            pairs += [([thing], 0), ((2, 3, thing, 0, thing), 2)]
    return pairs + [([2, 2, 2, 2], 3), ([1, 1, 1, None], 3), ((1, 1, 1, 1, 1), 3), ([0], 0), ([2, True], 1), ([2, -1], 1)]


class TestElements(unittest.TestCase):
    def test_elements(self):
        for moduli in GROUPS:
            self.assertEqual(elements_of(moduli=moduli), all_elements(moduli))
            self.assertEqual(elements_of(tuple(moduli)), all_elements(moduli))
        told = elements_of([2])
        told.append(None)
        self.assertEqual(elements_of([2]), [(0,), (1,)])

    def test_bad_moduli(self):
        calls = [elements_of, subgroups, lambda moduli: steps_to(moduli, None), lambda moduli: quotient(moduli, None),
                 lambda moduli: mirrors(moduli, None), lambda moduli: own_turns(moduli, None),
                 lambda moduli: patterns_of(moduli, None, None), lambda moduli: pattern_counts(moduli, None),
                 lambda moduli: turn_between(moduli, None, None), lambda moduli: apart_answers(moduli, None, None, None)]
        calls += [lambda moduli, call=call: call(moduli, None, None) for call in BY_STEPS]
        for call in calls:
            faults(call, BadModuli, "index", moduli_pairs())

    def test_bad_steps(self):
        calls = [lambda steps: steps_to([2, 3], steps), lambda steps: mirrors([2, 3], steps),
                 lambda steps: apart_answers([2, 3], steps, None, None)]
        calls += [lambda steps, call=call: call([2, 3], steps, None) for call in BY_STEPS]
        pairs = [(thing, 0) for thing in ANY_OBJECTS if not isinstance(thing, (list, tuple))] + [([], 0), ((), 0)]
        for thing in ANY_OBJECTS + [(0,), (0, 0, 0), (2, 0), (0, 3), (0, -1), (True, 0), (0, "0"), (0, None)]:
            if thing != (0, 0) or type(thing[0]) is bool:
                pairs += [([thing], 0), (((1, 1), [0, 2], thing, thing), 2)]
        for call in calls:
            faults(call, BadSteps, "index", pairs)
            for steps in ([(0, 0)], [(1, 0), (1, 0)], [[0, 1], [0, 2]]):
                with self.assertRaises(NotWhole):
                    call(steps)

    def test_bad_signs(self):
        calls = [lambda signs: own_turns([2, 2], signs), lambda signs: turn_between([2, 2], signs, None),
                 lambda signs: turn_between([2, 2], list("abab"), signs),
                 lambda signs: apart_answers([2, 2], [(0, 1), (1, 0)], signs, None)]
        calls += [lambda signs, call=call: call([2, 2], [(0, 1), (1, 0)], signs) for call in BY_STEPS]
        pairs = [(thing, 0) for thing in ANY_OBJECTS if not isinstance(thing, (list, tuple))] + [([], 0), ((), 0)]
        for thing in not_words():
            pairs += [([thing], 0), (("a", "b", thing), 2), (["a"] * 6 + [thing], 6)]
        pairs += [(["a"] * 3, 3), (["a"], 1), (["a"] * 5, 4), (("a",) * 9, 4)]
        for call in calls:
            faults(call, BadSigns, "index", pairs)

    def test_steps_to(self):
        for moduli, steps in STEPS:
            elements = all_elements(moduli)
            few = {elements[0]: 0}
            for many in range(1, len(elements) + 1):
                for row in itertools.combinations_with_replacement(sorted(set(steps)), many):
                    total = elements[0]
                    for step in row:
                        total = added(moduli, total, step)
                    few.setdefault(total, many)
                if len(few) == len(elements):
                    break
            self.assertEqual(steps_to(moduli=moduli, steps=as_lists(steps)), tuple(few[x] for x in elements))


BY_STEPS = [turn_net, crowd_net, door_net, rounds_to_part, turn_base, mirrored_kinds]


class TestNets(unittest.TestCase):
    def test_three_nets(self):
        for moduli, steps in STEPS:
            elements = all_elements(moduli)
            number = {x: at for at, x in enumerate(elements)}
            signs = [["s", at % 3] for at in range(len(elements))]
            turn, crowd, door = [], [], []
            for x in elements:
                for index, step in enumerate(steps):
                    one, other = number[x], number[added(moduli, x, step)]
                    turn.append((one, other, index, index))
                    crowd.append((one, other, "", ""))
                    if added(moduli, step, step) == elements[0]:
                        door.append((one, other, (index, 0), (index, 0)))
                    else:
                        door += [(one, other, (index, 0), (index, 1)), (other, one, (index, 1), (index, 0))]
            self.assertEqual(turn_net(moduli=moduli, steps=steps, signs=signs), Net(signs, turn))
            self.assertEqual(crowd_net(moduli=moduli, steps=steps, signs=signs), Net(signs, crowd))
            self.assertEqual(door_net(moduli=moduli, steps=steps, signs=signs), Net(signs, door))
            self.assertTrue(is_two_way(Net(signs, door)))
            for net in (turn_net, crowd_net, door_net):
                self.assertTrue(is_strong(net(tuple(moduli), as_lists(steps), tuple(signs))))


class TestSubgroups(unittest.TestCase):
    def test_all(self):
        for moduli in GROUPS:
            if math.prod(moduli) <= 12:
                self.assertEqual(subgroups(moduli=moduli), slow_subgroups(moduli))
        self.assertEqual(len(subgroups([3, 3, 3])), 28)
        self.assertEqual(len(subgroups([6, 6])), 30)
        self.assertEqual(len(subgroups([36])), 9)
        self.assertEqual([len(lot) for lot in subgroups([36])], [1, 2, 3, 4, 6, 9, 12, 18, 36])

    def test_no_group(self):
        things = ANY_OBJECTS + [[(0, 0), (0, 1)], [(0, 0), (0, 0)], [(1, 0)], [(1, 0), (0, 0)], [(0, 0), (2, 0), (1, 0)],
                                [(0, 0), (True, 0)], [(0, 0), (1, 0), (2, 0)], [(0, 0), None], [(0,)], ((0, 0), (2, 1)),
                                [(0, 0), (4, 0)], [[0, 0], [0, 3]], "00"]
        for call in (lambda thing: quotient([4, 3], thing), lambda thing: patterns_of([4, 3], thing, None)):
            faults(call, NoGroup, "thing", [(thing, thing) for thing in things])
        self.assertEqual(quotient([1], [[0]]), ([1], ((0,),)))

    def test_quotient(self):
        for moduli in GROUPS + [[6, 6], [36], [3, 3, 3], [2, 3, 4], [4, 9], [2, 2, 9]]:
            elements = all_elements(moduli)
            for lot in subgroups(moduli):
                pair = quotient(moduli=moduli, subgroup=lot)
                self.assertIsInstance(pair, tuple)
                least, images = pair
                self.assertIsInstance(least, list)
                self.assertIsInstance(images, tuple)
                self.assertEqual(math.prod(least) * len(lot), len(elements))
                self.assertTrue(least == [1] or all(modulus > 1 for modulus in least))
                self.assertTrue(all(later % modulus == 0 for modulus, later in zip(least, least[1:])))
                image = dict(zip(elements, images))
                self.assertEqual(sorted(set(images)), all_elements(least))
                self.assertEqual([x for x in elements if not any(image[x])], lot)
                for x in elements:
                    for y in elements[:6] + lot[:3]:
                        self.assertEqual(image[added(moduli, x, y)], added(least, image[x], image[y]))
                self.assertEqual(quotient(tuple(moduli), tuple(lot)), pair)
                self.assertEqual(quotient(moduli, as_lists(lot)), pair)


def determinant(rows):
    if not rows:
        return 1
    return sum((-1) ** at * rows[0][at] * determinant([row[:at] + row[at + 1:] for row in rows[1:]])
               for at in range(len(rows)))


class TestDiagonalForm(unittest.TestCase):
    def test_whole_rows(self):
        pick = random.Random(8)
        for _ in range(300):
            many = pick.randint(1, 3)
            rows = [[pick.randint(-9, 9) for _ in range(many)] for _ in range(pick.randint(many, many + 2))]
            index = math.gcd(*[determinant(list(lot)) for lot in itertools.combinations(rows, many)])
            if index == 0:
                continue
            sizes, turned = diagonal_form(rows)
            self.assertEqual(math.prod(sizes), index)
            self.assertEqual(abs(determinant(turned)), 1)
            self.assertTrue(all(later % size == 0 and size > 0 for size, later in zip(sizes, sizes[1:] + [0])))
            for row in rows:
                for at, size in enumerate(sizes):
                    self.assertEqual(sum(part * line[at] for part, line in zip(row, turned)) % size, 0)


class TestMirrors(unittest.TestCase):
    def slow_mirrors(self, moduli, steps):
        elements = all_elements(moduli)
        found = []
        for images in itertools.permutations(elements):
            led = dict(zip(elements, images))
            if sorted(led[step] for step in steps) == sorted(steps) and all(
                    led[added(moduli, x, y)] == added(moduli, led[x], led[y]) for x in elements for y in elements):
                found.append(images)
        return sorted(found)

    def test_all(self):
        for moduli, steps in STEPS:
            told = mirrors(moduli=moduli, steps=steps)
            elements = all_elements(moduli)
            if len(elements) <= 6:
                self.assertEqual(told, self.slow_mirrors(moduli, steps))
            self.assertEqual(told, sorted(told))
            self.assertIn(tuple(elements), told)
            for images in told:
                led = dict(zip(elements, images))
                self.assertEqual(sorted(images), elements)
                self.assertEqual(sorted(led[step] for step in steps), sorted(steps))
            self.assertEqual(mirrors(tuple(moduli), as_lists(steps)), told)
        self.assertEqual(len(mirrors([2, 2, 2], [(1, 0, 0), (0, 1, 0), (0, 0, 1)])), 6)
        self.assertEqual(len(mirrors([8], [(1,), (7,), (3,), (5,)])), 4)
        self.assertEqual(len(mirrors([3, 3, 3], [(1, 0, 0), (2, 0, 0), (0, 1, 0), (0, 2, 0), (0, 0, 1), (0, 0, 2)])), 48)
        self.assertEqual(len(mirrors([4], [(1,), (1,), (3,)])), 1)


if __name__ == "__main__":
    unittest.main()
