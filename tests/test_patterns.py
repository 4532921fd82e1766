"""Points 80 to 87: own turns, near places, bases, counts, turned patterns, mirrored kinds, neighbours unlike."""

import itertools
import math
import random
import unittest

from samefromhere.alike import alike_pairs
from samefromhere.errors import BadNumber
from samefromhere.groups import mirrors, quotient, steps_to, subgroups
from samefromhere.kinds import kinds, kinds_for_ever, rounds_needed
from samefromhere.leastnets import least_net
from samefromhere.patterns import (apart_answers, mirrored_kinds, own_turns, pattern_counts, patterns_of, rounds_to_part,
                                   turn_base, turn_between)
from samefromhere.turnnets import crowd_net, door_net, turn_net
from tests.helpers import ANY_OBJECTS, as_lists, faults
from tests.test_groups import GROUPS, STEPS, added, all_elements


def samples():
    """Moduli, steps and signs, with own turns of many sorts."""
    pick = random.Random(11)
    found = []
    for moduli, steps in STEPS:
        elements = all_elements(moduli)
        for lot in pick.sample(subgroups(moduli), min(4, len(subgroups(moduli)))):
            _, images = quotient(moduli, lot)
            for words in (["a", "b"], [0, "a", ("b", 1)]):
                table = {image: pick.choice(words) for image in sorted(set(images))}
                found.append((moduli, steps, [table[image] for image in images]))
        found.append((moduli, steps, [pick.choice("ab") for _ in elements]))
        found.append((moduli, steps, ["a"] * len(elements)))
        found.append((moduli, steps, ["b"] + ["a"] * (len(elements) - 1)))
    return found


CASES = samples()


def minus(moduli, x, y):
    return tuple((one - other) % m for one, other, m in zip(x, y, moduli))


def together(lots):
    return {(i, j) for lot in lots for i in lot for j in lot}


class TestOwnTurns(unittest.TestCase):
    def test_kinds_differ_by_own_turns(self):
        for moduli, steps, signs in CASES:
            elements = all_elements(moduli)
            sign = dict(zip(elements, signs))
            turns = own_turns(moduli=moduli, signs=signs)
            self.assertEqual(turns, [t for t in elements if all(sign[added(moduli, x, t)] == sign[x] for x in elements)])
            wanted = {(i, j) for i, x in enumerate(elements) for j, y in enumerate(elements)
                      if minus(moduli, x, y) in turns}
            self.assertEqual(together(kinds_for_ever(turn_net(moduli, steps, signs))), wanted)
            self.assertEqual(together(kinds_for_ever(door_net(moduli, steps, signs))), wanted)
            self.assertEqual(own_turns(tuple(moduli), as_lists(signs)), turns)

    def test_near(self):
        for moduli, steps, signs in CASES:
            elements = all_elements(moduli)
            sign = dict(zip(elements, signs))
            back = [minus(moduli, elements[0], step) for step in steps]
            for net, distances in ((turn_net(moduli, steps, signs), steps_to(moduli, steps)),
                                   (door_net(moduli, steps, signs), steps_to(moduli, list(steps) + back))):
                for rounds in range(4):
                    near = [w for w, many in zip(elements, distances) if many <= rounds]
                    wanted = {(i, j) for i, x in enumerate(elements) for j, y in enumerate(elements)
                              if all(sign[minus(moduli, x, w)] == sign[minus(moduli, y, w)] for w in near)}
                    self.assertEqual(together(kinds(net, rounds)), wanted)

    def test_rounds_to_part(self):
        found = set()
        for moduli, steps, signs in CASES:
            rounds = rounds_to_part(moduli=moduli, steps=steps, signs=signs)
            self.assertEqual(rounds, rounds_needed(turn_net(moduli, steps, signs)))
            self.assertEqual(rounds_to_part(tuple(moduli), as_lists(steps), as_lists(signs)), rounds)
            found.add(rounds)
        self.assertLessEqual({0, 1, 2, 3}, found)
        self.assertEqual(rounds_to_part([36], [(1,)], ["a"] * 35 + ["b"]), 34)


class TestTurnBase(unittest.TestCase):
    def test_base(self):
        for moduli, steps, signs in CASES:
            triple = turn_base(moduli=moduli, steps=steps, signs=signs)
            self.assertIsInstance(triple, tuple)
            self.assertEqual([type(part) for part in triple], [list] * 3)
            least, near_steps, near_signs = triple
            turns = own_turns(moduli, signs)
            told_moduli, images = quotient(moduli, turns)
            image = dict(zip(all_elements(moduli), images))
            self.assertEqual(least, told_moduli)
            self.assertEqual(near_steps, [image[step] for step in steps])
            number = {x: at for at, x in enumerate(all_elements(least))}
            for x, sign in zip(all_elements(moduli), signs):
                self.assertEqual(near_signs[number[image[x]]], sign)
            self.assertEqual(own_turns(least, near_signs), [all_elements(least)[0]])
            net, base = turn_net(moduli, steps, signs), turn_net(*triple)
            self.assertEqual(least_net(net), least_net(base))
            self.assertEqual(len(least_net(net)), len(base))
            self.assertEqual(turn_base(tuple(moduli), as_lists(steps), as_lists(signs)), triple)

    def test_signs_are_words(self):
        self.assertEqual(turn_base([2], [[1]], [["a"], ["b", [0]]]), ([2], [(1,)], [("a",), ("b", (0,))]))
        self.assertEqual(turn_base([2], [[1]], [["a"], ("a",)]), ([1], [(0,)], [("a",)]))


class TestHowMany(unittest.TestCase):
    def test_all_patterns(self):
        for moduli in GROUPS:
            many_elements = math.prod(moduli)
            for many in (1, 2, 3):
                if many ** many_elements > 800:
                    continue
                turns = {}
                for signs in itertools.product(range(many), repeat=many_elements):
                    key = tuple(own_turns(moduli, signs))
                    turns[key] = turns.get(key, 0) + 1
                counts = {}
                for lot in subgroups(moduli):
                    count = patterns_of(moduli=moduli, subgroup=lot, many=many)
                    self.assertEqual(count, turns.get(tuple(lot), 0))
                    if count:
                        size = many_elements // len(lot)
                        counts[size] = counts.get(size, 0) + count
                told = pattern_counts(moduli=moduli, many=many)
                self.assertEqual(told, counts)
                self.assertEqual(list(told), sorted(told))

    def test_counts_add_up(self):
        for moduli in GROUPS + [[36], [6, 6], [3, 3, 3], [2, 3, 4]]:
            for many in (0, 1, 2, 9):
                told = pattern_counts(moduli, many)
                self.assertEqual(sum(told.values()), many ** math.prod(moduli))
                self.assertTrue(all(count > 0 for count in told.values()))
                for lot in subgroups(moduli)[:5]:
                    self.assertEqual(sum(patterns_of(moduli, larger, many) for larger in subgroups(moduli)
                                         if set(lot) <= set(larger)), many ** (math.prod(moduli) // len(lot)))
        told = pattern_counts([2], 3)
        told[5] = 1
        self.assertEqual(pattern_counts([2], 3), {1: 3, 2: 6})

    def test_errors(self):
        bad = [(thing, thing) for thing in ANY_OBJECTS if type(thing) is not int or thing < 0]
        faults(lambda many: patterns_of([2], [(0,)], many), BadNumber, "thing", bad)
        faults(lambda many: pattern_counts([2], many), BadNumber, "thing", bad)


class TestTurned(unittest.TestCase):
    def test_just_one(self):
        pick = random.Random(5)
        both = {True: 0, False: 0}
        for moduli, steps, signs in CASES:
            elements = all_elements(moduli)
            sign = dict(zip(elements, signs))
            shift = pick.choice(elements)
            others = [[sign[added(moduli, x, shift)] for x in elements], [pick.choice(signs) for _ in signs], signs[::-1]]
            for other in others:
                t = turn_between(moduli=moduli, one=signs, other=other)
                fits = [t for t in elements
                        if all(other[at] == sign[added(moduli, x, t)] for at, x in enumerate(elements))]
                self.assertEqual(t, fits[0] if fits else None)
                both[t is None] += 1
                pairs = alike_pairs(turn_net(moduli, steps, signs), turn_net(moduli, steps, other))
                if t is None:
                    self.assertEqual(pairs, [])
                else:
                    for at, x in enumerate(elements):
                        self.assertIn((elements.index(added(moduli, x, t)), at), pairs)
        self.assertGreater(min(both.values()), 40)


class TestMirrored(unittest.TestCase):
    def test_whole_lists(self):
        coarser = 0
        for moduli, steps, signs in CASES:
            elements = all_elements(moduli)
            sign = dict(zip(elements, signs))
            lots = mirrored_kinds(moduli=moduli, steps=steps, signs=signs)
            wanted = set()
            for images in mirrors(moduli, steps):
                led = dict(zip(elements, images))
                for t in elements:
                    if all(sign[z] == sign[added(moduli, led[z], t)] for z in elements):
                        wanted |= {(x, added(moduli, led[x], t)) for x in elements}
            pairs = {(elements[i], elements[j]) for i, j in together(lots)}
            self.assertEqual(pairs, wanted)
            self.assertEqual(lots, sorted(sorted(lot) for lot in lots))
            self.assertEqual(sorted(place for lot in lots for place in lot), list(range(len(elements))))
            crowd = together(kinds_for_ever(crowd_net(moduli, steps, signs)))
            self.assertLessEqual(together(lots), crowd)
            self.assertLessEqual(together(kinds_for_ever(turn_net(moduli, steps, signs))), together(lots))
            coarser += len(lots) < len(elements) // len(own_turns(moduli, signs))
            self.assertEqual(mirrored_kinds(tuple(moduli), as_lists(steps), as_lists(signs)), lots)
        self.assertGreater(coarser, 20)


class TestApart(unittest.TestCase):
    def slow_fewest(self, moduli, steps, signs):
        """The least number below which answers can be, None if there is none."""
        net = turn_net(moduli, steps, signs)
        lots = kinds_for_ever(net)
        kind = {place: at for at, lot in enumerate(lots) for place in lot}
        pairs = {(kind[one], kind[other]) for one, other, _, _ in net.roads()}
        if any(one == other for one, other in pairs):
            return None
        for many in range(1, len(lots) + 1):
            if many ** len(lots) > 70000:
                return 0
            for row in itertools.product(range(many), repeat=len(lots)):
                if all(row[one] != row[other] for one, other in pairs):
                    return many
        return None

    def test_answers(self):
        both = {True: 0, False: 0}
        for moduli, steps, signs in CASES:
            fewest = self.slow_fewest(moduli, steps, signs)
            turns = own_turns(moduli, signs)
            self.assertEqual(fewest is None, any(step in turns for step in steps))
            for many in range(0, 6):
                told = apart_answers(moduli=moduli, steps=steps, signs=signs, many=many)
                if fewest != 0:
                    self.assertEqual(told is None, fewest is None or many < fewest)
                both[told is None] += 1
                if told is not None:
                    self.assertIsInstance(told, list)
                    self.assertTrue(all(type(number) is int and 0 <= number < many for number in told))
                    net = turn_net(moduli, steps, signs)
                    self.assertTrue(all(told[i] == told[j] for i, j in together(kinds_for_ever(net))))
                    self.assertTrue(all(told[one] != told[other] for one, other, _, _ in net.roads()))
                    self.assertEqual(apart_answers(tuple(moduli), as_lists(steps), as_lists(signs), many), told)
        self.assertGreater(min(both.values()), 60)

    def test_errors(self):
        faults(lambda many: apart_answers([2], [(1,)], ["a", "b"], many), BadNumber, "thing",
               [(thing, thing) for thing in ANY_OBJECTS if type(thing) is not int or thing < 0])

    def test_limits(self):
        steps = [(1,), (2,), (3,), (4,), (5,), (6,)]
        signs = list("ab") + ["c"] * 14
        self.assertIsNone(apart_answers([16], steps, signs, 4))
        self.assertIsNone(apart_answers([13], steps, ["a"] + ["b"] * 12, 4))
        self.assertIsNotNone(apart_answers([36], [(1,), (2,), (4,)], list("abcdefghijkl") * 3, 12))
        self.assertEqual(len(mirrored_kinds([36], [(1,), (35,), (5,), (31,), (7,), (29,)], ["a"] * 36)), 1)
        self.assertEqual(len(mirrored_kinds([3, 3, 3], [(1, 0, 0), (2, 0, 0), (0, 1, 0), (0, 2, 0), (0, 0, 1),
                                                        (0, 0, 2)], ["b"] + ["a"] * 26)), 4)
        self.assertEqual(len(kinds_for_ever(door_net([6, 6], [(0, 1), (1, 0), (1, 1), (2, 1), (3, 0), (0, 3)],
                                                     ["b"] + ["a"] * 35))), 36)


if __name__ == "__main__":
    unittest.main()
