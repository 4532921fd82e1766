"""Points 29, 30, 31, 33, 34: turns, parts, joined lifts, counts."""

import itertools
import math
import random
import unittest

from samefromhere.errors import (BadCopies, BadImages, BadLoops, BadNumber, BadTurns, NotJoined, NotTwoWay)
from samefromhere.joins import joined_lift, joined_parts
from samefromhere.leastnets import is_map, maps_over
from samefromhere.liftcounts import (all_turns, are_like, count_joined, count_picks, count_turns, count_unlike,
                                     count_unlike_joined)
from samefromhere.lifts import lift, picks_back
from samefromhere.madenets import beside, renamed
from samefromhere.nets import Net, roads_in
from samefromhere.shapes import is_joined, is_two_way
from samefromhere.turns import road_pairs, turned_lift, turns_back
from tests.helpers import (ANY_OBJECTS, DOUBLE, HALF, LONE, LOOPS, PATH, R, S, TREE_HALF, TRIANGLE, TWO_HALVES, TWO_WAYS,
                           as_tuples, random_two_way, samples, two_way)

BASES = TWO_WAYS + [random_two_way(seed) for seed in range(20)]
APART = Net(["a", "a"], [])


def is_half(pair):
    return pair[0] == pair[1]


def slow_turns(base, number, loops):
    """All turns, by going through all rows of rows."""
    rows = list(itertools.permutations(range(number)))
    found = []
    for turns in itertools.product(rows, repeat=len(road_pairs(base))):
        good = True
        for pair, turn in zip(road_pairs(base), turns):
            if is_half(pair):
                good = good and all(turn[turn[i]] == i and (loops or turn[i] != i) for i in range(number))
        if good:
            found.append(turns)
    return found


def slow_like(base, number, one, other):
    rows = list(itertools.permutations(range(number)))
    for new in itertools.product(rows, repeat=len(base)):
        if all(new[road[1]][turn[i]] == away[new[road[0]][i]]
               for (road, _), turn, away in zip(road_pairs(base), one, other) for i in range(number)):
            return True
    return False


def random_turns(seed, base, number):
    pick = random.Random(seed)
    turns = []
    for pair in road_pairs(base):
        row = list(range(number))
        pick.shuffle(row)
        if is_half(pair):
            turn = list(range(number))
            for i in range(0, number - 1, 2):
                if pick.random() < 0.7:
                    turn[row[i]], turn[row[i + 1]] = row[i + 1], row[i]
            row = turn
        turns.append(row)
    return turns


class TestPairs(unittest.TestCase):
    def test_pairs(self):
        for base in BASES:
            pairs = road_pairs(base=base)
            self.assertEqual(sorted(road for pair in pairs for road in set(pair)), base.roads())
            self.assertEqual([road for road, _ in pairs], [road for road in base.roads()
                                                           if road <= (road[1], road[0], road[3], road[2])])
            for road, back in pairs:
                self.assertEqual(back, (road[1], road[0], road[3], road[2]))
        self.assertEqual(road_pairs(Net(["a"], [(0, 0, "", 5), (0, 0, 5, "")])), [((0, 0, 5, ""), (0, 0, "", 5))])

    def test_errors(self):
        calls = [lambda base: road_pairs(base), lambda base: turned_lift(base, None, None),
                 lambda base: turns_back(None, base, None), lambda base: joined_lift(base, None, None),
                 lambda base: count_turns(base, None, None), lambda base: count_joined(base, None, None),
                 lambda base: all_turns(base, None, None), lambda base: are_like(base, None, None, None),
                 lambda base: count_unlike(base, None, None), lambda base: count_unlike_joined(base, None, None)]
        for call in calls:
            for base in (R, S, Net(["a", "a"], [(0, 0, 1, 2)])):
                with self.assertRaises(NotTwoWay) as caught:
                    call(base)
                self.assertIs(caught.exception.thing, base)
            for base in (APART, beside([LOOPS, LOOPS])):
                with self.assertRaises(NotJoined) as caught:
                    call(base)
                self.assertIs(caught.exception.thing, base)

    def test_bad_number_and_loops(self):
        for function in (joined_lift, count_turns, count_joined, all_turns, count_unlike, count_unlike_joined):
            for thing in ANY_OBJECTS:
                if isinstance(thing, bool) or not isinstance(thing, int) or thing < 1:
                    for call in (lambda: function(LOOPS, thing, None), lambda: turned_lift(LOOPS, thing, None),
                                 lambda: are_like(LOOPS, thing, None, None)):
                        with self.assertRaises(BadNumber) as caught:
                            call()
                        self.assertIs(caught.exception.thing, thing)
                if not isinstance(thing, bool):
                    with self.assertRaises(BadLoops) as caught:
                        function(LOOPS, 2, thing)
                    self.assertIs(caught.exception.thing, thing)
            for thing in (0, 1):
                with self.assertRaises(BadLoops):
                    function(base=LOOPS, number=1, loops=thing)


class TestTurnedLift(unittest.TestCase):
    def test_turned_lift(self):
        net = turned_lift(base=LOOPS, number=3, turns=[[1, 0, 2], (1, 2, 0)])
        self.assertEqual(net, Net(["s"] * 3, [
            (0, 1, "h", "h"), (1, 0, "h", "h"), (2, 2, "h", "h"), (0, 1, "x", "y"), (1, 2, "x", "y"), (2, 0, "x", "y"),
            (1, 0, "y", "x"), (2, 1, "y", "x"), (0, 2, "y", "x")]))
        self.assertEqual(turned_lift(DOUBLE, 2, [[0, 1], [1, 0]]), two_way(
            ["a", "a", "b", "b"], [(0, 2, 0, 0), (1, 3, 0, 0), (0, 3, 1, 1), (1, 2, 1, 1)]))
        self.assertEqual(turned_lift(LONE, 2, ()), Net(["a", "a"], []))

    def test_told_back(self):
        for seed, base in enumerate(BASES):
            for number in (1, 2, 3):
                turns = random_turns(seed, base, number)
                net = turned_lift(base, number, turns)
                self.assertTrue(is_two_way(net))
                images = [place for place in range(len(base)) for _ in range(number)]
                self.assertTrue(is_map(net, base, images))
                self.assertEqual(turns_back(net=net, base=base, images=images),
                                 (number, tuple(range(len(net))), as_tuples(turns)))
                order = list(range(len(net)))
                random.Random(seed).shuffle(order)
                moved = renamed(net, order)
                images = [images[order.index(place)] for place in range(len(net))]
                told = turns_back(moved, base, tuple(images))
                self.assertEqual(told, as_tuples(told))
                self.assertEqual(renamed(moved, told[1]), turned_lift(base, told[0], told[2]))
                self.assertEqual(told[1], picks_back(moved, base, images)[1])

    def test_two_way_nets_over_a_base(self):
        nets = [random_two_way(seed, 4) for seed in range(30)]
        for net, base in itertools.product(nets, repeat=2):
            for images in maps_over(net, base)[:3]:
                number, order, turns = turns_back(net, base, images)
                self.assertEqual(renamed(net, order), turned_lift(base, number, turns))

    def test_none(self):
        self.assertIsNone(turns_back(R, LONE, [0, 0, 0, 0]))
        self.assertIsNone(turns_back(PATH, HALF, [0, 0, 0]))
        one_way = lift(TWO_HALVES, [2], [[[1, 0], [0, 1]]])
        self.assertIsNotNone(turns_back(one_way, TWO_HALVES, [0, 0]))
        one_way = lift(TWO_HALVES, [2], [[[1, 0], [1, 0]]])
        self.assertIsNone(turns_back(one_way, TWO_HALVES, [0, 0]))
        self.assertIsNotNone(picks_back(one_way, TWO_HALVES, [0, 0]))
        self.assertIsNone(turns_back(beside([DOUBLE, DOUBLE]), beside([DOUBLE]), [1, 0, 0, 1]))

    def test_bad_turns(self):
        good = [[0, 1, 2], [1, 2, 0]]
        turned_lift(LOOPS, 3, good)
        cases = [([], 0), (good[:1], 1), (good + [[0, 1, 2]], 2), ([[1, 2, 0], [0, 1, 2]], 0), ([[0, 1], None], 0),
                 ([good[0], [0, 1, 1]], 1), ([good[0], [0, 1, 3]], 1), ([good[0], [0, 1, 2, 3]], 1),
                 ([good[0], [0, True, 2]], 1), ([good[0], [0, 1, None]], 1), ([good[0], "012"], 1),
                 ([good[0], [0, 1, 2, 0]], 1), ([good[0], good[1], None], 2), ([good[0], [-1, 0, 1]], 1)]
        cases += [([good[0], thing], 1) for thing in ANY_OBJECTS]
        cases += [(thing, 0) for thing in ANY_OBJECTS if not isinstance(thing, (list, tuple))]
        for turns, index in cases:
            for call in (lambda: turned_lift(LOOPS, 3, turns), lambda: are_like(LOOPS, 3, turns, None),
                         lambda: are_like(LOOPS, 3, good, turns)):
                with self.assertRaises(BadTurns) as caught:
                    call()
                self.assertEqual(caught.exception.index, index, turns)

    def test_bad_images(self):
        with self.assertRaises(BadImages) as caught:
            turns_back(R, LOOPS, [0, 0, 1, 0])
        self.assertEqual(caught.exception.index, 2)
        with self.assertRaises(BadImages) as caught:
            turns_back(R, LOOPS, [0, 0])
        self.assertEqual(caught.exception.index, 2)


class TestParts(unittest.TestCase):
    def test_parts(self):
        for net in samples(40):
            pairs = {frozenset(road[:2]) for road in net.roads()}
            lots = [[place] for place in range(len(net))]
            for pair in pairs:
                met = [lot for lot in lots if pair & set(lot)]
                lots = [lot for lot in lots if not pair & set(lot)] + [sorted(sum(met, []))]
            self.assertEqual(joined_parts(net=net), sorted(lots))
            self.assertEqual(is_joined(net), len(lots) == 1)
        self.assertEqual(joined_parts(Net(["a"] * 4, [(3, 0, "", ""), (1, 2, "", "")])), [[0, 3], [1, 2]])

    def test_each_part_of_a_lift_is_a_lift(self):
        for seed, base in enumerate(BASES):
            turns = random_turns(seed, base, 3)
            net = turned_lift(base, 3, turns)
            for part in joined_parts(net):
                roads = [(part.index(road[0]), part.index(road[1]), *road[2:]) for road in net.roads()
                         if road[0] in part]
                alone = Net([net.signs()[place] for place in part], roads)
                self.assertIsNotNone(turns_back(alone, base, [place // 3 for place in part]))


class TestJoined(unittest.TestCase):
    def test_when_there_is_one(self):
        for base in BASES:
            halves = len([pair for pair in road_pairs(base) if is_half(pair)])
            ways = len(road_pairs(base)) - halves - len(base) + 1
            for number, loops in itertools.product(range(1, 9), (True, False)):
                turns = joined_lift(base=base, number=number, loops=loops)
                none = (number % 2 == 1 and not loops and halves > 0) or (ways == 0 and halves <= 1
                                                                          and number > halves + 1)
                self.assertEqual(turns is None, none, (base.roads(), number, loops))
                if turns is not None:
                    self.assertEqual(turns, as_tuples(turns))
                    net = turned_lift(base, number, turns)
                    self.assertTrue(is_joined(net))
                    if not loops:
                        self.assertFalse([road for road in net.roads() if road[0] == road[1] and road[2] == road[3]])

    def test_by_going_through_all(self):
        for base in BASES:
            for number, loops in itertools.product(range(1, 4), (True, False)):
                if count_turns(base, number, loops) <= 300:
                    found = [turns for turns in all_turns(base, number, loops)
                             if is_joined(turned_lift(base, number, turns))]
                    self.assertEqual(joined_lift(base, number, loops) is not None, bool(found))
                    self.assertEqual(count_joined(base, number, loops), len(found))


class TestCounts(unittest.TestCase):
    def test_count_picks(self):
        for base in samples(20, most=3, roads=5):
            for copies in itertools.product(range(1, 4), repeat=len(base)):
                found = 1
                for place in range(len(base)):
                    for road in roads_in(base, place):
                        found *= copies[road[0]] ** copies[place]
                self.assertEqual(count_picks(base=base, copies=list(copies)), found)
        self.assertEqual(count_picks(S, [2, 1, 3]), 2 * 2 ** 3)
        with self.assertRaises(BadCopies) as caught:
            count_picks(S, [2, 1])
        self.assertEqual(caught.exception.index, 2)

    def test_all_turns(self):
        for base in (LONE, HALF, LOOPS, TWO_HALVES, DOUBLE, TREE_HALF, TRIANGLE, PATH):
            for number, loops in itertools.product(range(1, 4), (True, False)):
                found = slow_turns(base, number, loops)
                told = all_turns(base=base, number=number, loops=loops)
                self.assertEqual(told, found)
                self.assertEqual(told, sorted(told))
                self.assertEqual(count_turns(base=base, number=number, loops=loops), len(found))
        self.assertEqual(all_turns(HALF, 4, False), [((1, 0, 3, 2),), ((2, 3, 0, 1),), ((3, 2, 1, 0),)])
        self.assertEqual(len(all_turns(HALF, 8, True)), 764)
        self.assertEqual(count_turns(HALF, 8, True), 764)
        self.assertEqual(all_turns(HALF, 7, False), [])

    def test_likeness(self):
        for base in (HALF, LOOPS, TWO_HALVES, DOUBLE, TREE_HALF):
            for number in (1, 2, 3):
                turns = all_turns(base, number, True)
                for one, other in list(itertools.product(turns, repeat=2))[::max(1, len(turns) ** 2 // 150)]:
                    self.assertIs(are_like(base=base, number=number, one=one, other=other),
                                  slow_like(base, number, one, other))
        self.assertTrue(are_like(LONE, 3, [], []))
        self.assertTrue(are_like(DOUBLE, 8, [[1, 2, 3, 4, 5, 6, 7, 0], list(range(8))],
                                 [list(range(8)), [3, 0, 1, 6, 7, 4, 5, 2]]) is
                        are_like(DOUBLE, 8, [list(range(8)), [7, 0, 1, 2, 3, 4, 5, 6]],
                                 [list(range(8)), [3, 0, 1, 6, 7, 4, 5, 2]]))

    def test_unlike_ones(self):
        for base in (LONE, HALF, LOOPS, TWO_HALVES, DOUBLE, TREE_HALF, TRIANGLE, PATH):
            for number, loops in itertools.product(range(1, 5), (True, False)):
                turns = all_turns(base, number, loops) if count_turns(base, number, loops) <= 600 else None
                if turns is None:
                    continue
                unlike = []
                for one in turns:
                    if not any(are_like(base, number, one, other) for other in unlike):
                        unlike.append(one)
                joined = [one for one in unlike if is_joined(turned_lift(base, number, one))]
                self.assertEqual(count_unlike(base=base, number=number, loops=loops), len(unlike))
                self.assertEqual(count_unlike_joined(base=base, number=number, loops=loops), len(joined))

    def sums(self, number, most):
        if number == 0:
            yield []
        for part in range(min(number, most), 0, -1):
            for rest in self.sums(number - part, part):
                yield [part] + rest

    def test_the_sum_of_point_34(self):
        """z and h counted by going through all rows that commute."""
        for number in range(1, 6):
            rows = list(itertools.permutations(range(number)))
            counts = []
            for parts in self.sums(number, number):
                row, at = [], 0
                for part in parts:
                    row += [at + (i + 1) % part for i in range(part)]
                    at += part
                commute = [other for other in rows if all(other[row[i]] == row[other[i]] for i in range(number))]
                undo = [other for other in commute if all(other[other[i]] == i for i in range(number))]
                moving = [other for other in undo if all(other[i] != i for i in range(number))]
                counts.append((len(commute), len(undo), len(moving)))
            for base in BASES:
                halves = len([pair for pair in road_pairs(base) if is_half(pair)])
                ways = len(road_pairs(base)) - halves - len(base) + 1
                for loops in (True, False):
                    total = sum(math.factorial(number) * z ** ways * (undo if loops else moving) ** halves // z
                                for z, undo, moving in counts)
                    self.assertEqual(total % math.factorial(number), 0)
                    self.assertEqual(count_unlike(base, number, loops), total // math.factorial(number))

    def test_known_numbers_to_twenty(self):
        two_rounds = Net(["a"], [(0, 0, 0, 1), (0, 0, 1, 0), (0, 0, 2, 3), (0, 0, 3, 2)])
        one_round = Net(["a"], [(0, 0, 0, 1), (0, 0, 1, 0)])
        self.assertEqual([count_unlike(one_round, n, True) for n in (1, 2, 3, 4, 5, 20)], [1, 2, 3, 5, 7, 627])
        self.assertEqual([count_unlike_joined(one_round, n, False) for n in range(1, 21)], [1] * 20)
        self.assertEqual([count_joined(one_round, n, False) for n in range(1, 21)],
                         [math.factorial(n - 1) for n in range(1, 21)])
        self.assertEqual([count_unlike(two_rounds, n, True) for n in range(1, 6)], [1, 4, 11, 43, 161])
        self.assertEqual([count_unlike_joined(two_rounds, n, True) for n in range(1, 7)], [1, 3, 7, 26, 97, 624])
        self.assertEqual([count_joined(two_rounds, n, True) for n in range(1, 6)], [1, 3, 26, 426, 11064])
        self.assertEqual([count_unlike(TREE_HALF, n, True) for n in (1, 2, 3, 19, 20)], [1, 2, 2, 10, 11])
        self.assertEqual([count_unlike_joined(TREE_HALF, n, True) for n in (1, 2, 3, 20)], [1, 1, 0, 0])
        self.assertEqual([count_unlike(HALF, n, False) for n in (1, 2, 3, 20)], [0, 1, 0, 1])
        for number in (19, 20):
            for base in BASES[::3]:
                for loops in (True, False):
                    joined = count_joined(base, number, loops)
                    unlike = count_unlike_joined(base, number, loops)
                    self.assertLessEqual(joined, count_turns(base, number, loops))
                    self.assertLessEqual(unlike, count_unlike(base, number, loops))
                    self.assertEqual(joined > 0, joined_lift(base, number, loops) is not None)
                    self.assertEqual(unlike > 0, joined > 0)
