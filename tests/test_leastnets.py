"""Points 19, 20, 21: least nets, maps, nets over both."""

import itertools
import random
import unittest

from samefromhere.alike import alike_for, alike_pairs
from samefromhere.errors import BadNets
from samefromhere.kinds import kinds_for_ever, ranks
from samefromhere.leastnets import both_over, common_least, is_map, least_net, maps_over
from samefromhere.madenets import beside, renamed
from samefromhere.nets import Net
from tests.helpers import ANY_OBJECTS, LONE, R, S, random_net, ring, samples


def slow_is_map(net, base, images):
    for place, image in enumerate(images):
        near = sorted(str((images[road[0]], road[2:])) for road in net.roads() if road[1] == place)
        away = sorted(str((road[0], road[2:])) for road in base.roads() if road[1] == image)
        if near != away or net.signs()[place] != base.signs()[image]:
            return False
    return True


def slow_maps(net, base):
    return [list(images) for images in itertools.product(range(len(base)), repeat=len(net))
            if slow_is_map(net, base, images)]


def small(many=40):
    return [random_net(seed, most=4, signs=1, road_words=1, roads=6) for seed in range(many)]


class TestLeastNets(unittest.TestCase):
    def test_least_net(self):
        for seed, net in enumerate(samples(60, most=8, roads=8)):
            least = least_net(net=net)
            lots = kinds_for_ever(net)
            self.assertEqual(len(least), len(lots))
            self.assertEqual(kinds_for_ever(least), [[place] for place in range(len(least))])
            self.assertEqual(least_net(least), least)
            self.assertEqual(ranks(least), list(range(len(least))))
            for lot in lots:
                self.assertIsNone(alike_for(net, lot[-1], least, ranks(net)[lot[0]]))
            order = list(range(len(net)))
            random.Random(seed).shuffle(order)
            self.assertEqual(least_net(renamed(net, order)), least)
            self.assertEqual(least_net(beside([net, net])), least)

    def test_equal_just_if_each_place_has_an_alike_one(self):
        nets = small() + [ring("ab"), R, ring("a"), ring("aa"), S, LONE]
        met = set()
        for one, other in itertools.combinations(nets, 2):
            pairs = alike_pairs(one, other)
            whole = {p for p, _ in pairs} == set(range(len(one))) and {q for _, q in pairs} == set(range(len(other)))
            self.assertEqual(least_net(one) == least_net(other), whole)
            met.add(whole)
        self.assertEqual(met, {True, False})

    def test_examples(self):
        self.assertEqual(least_net(R), ring("ab"))
        self.assertEqual(least_net(ring("aaaaa")), ring("a"))
        self.assertEqual(least_net(Net(["b", "b", "a"], [(2, 0, "", ""), (2, 1, "", ""), (0, 0, 1, 2), (0, 1, 1, 2)])),
                         Net(["a", "b"], [(0, 1, "", ""), (1, 1, 1, 2)]))
        self.assertEqual(least_net(Net(["a", "a"], [(0, 0, 0, 0), (1, 0, 0, 0), (0, 1, 0, 0), (1, 1, 0, 0)])),
                         Net(["a"], [(0, 0, 0, 0), (0, 0, 0, 0)]))

    def test_common_least(self):
        self.assertEqual(common_least(nets=[R, ring("ab"), S]), least_net(beside([R, S])))
        self.assertEqual(common_least((R,)), least_net(R))
        for thing in ANY_OBJECTS:
            if not isinstance(thing, Net):
                with self.assertRaises(BadNets) as caught:
                    common_least([R, thing])
                self.assertEqual(caught.exception.index, 1)
            if not isinstance(thing, (list, tuple)) or len(thing) == 0:
                with self.assertRaises(BadNets) as caught:
                    common_least(thing)
                self.assertEqual(caught.exception.index, 0)


class TestMaps(unittest.TestCase):
    def test_all_maps(self):
        nets = small() + [R, ring("ab"), S, LONE, ring("aaa"), ring("aa")]
        count = 0
        for net, base in list(zip(nets, nets[1:])) + list(itertools.product(nets[:12], repeat=2)):
            maps = maps_over(net=net, base=base)
            self.assertEqual(maps, slow_maps(net, base))
            count += len(maps)
            for images in itertools.islice(itertools.product(range(len(base)), repeat=len(net)), 30):
                self.assertIs(is_map(net=net, base=base, thing=list(images)), list(images) in maps)
        self.assertGreater(count, 50)

    def test_facts(self):
        nets = samples(40, most=5, signs=1, roads=6)
        for net in nets:
            least = least_net(net)
            self.assertEqual(maps_over(net, least), [ranks(net)])
            self.assertIn(list(range(len(net))), maps_over(net, net))
            for other in nets[:6]:
                self.assertLessEqual(len(maps_over(other, least)), 1)
        for net, base in itertools.product(nets[:20], repeat=2):
            for images in maps_over(net, base)[:5]:
                for place, image in enumerate(images):
                    self.assertIsNone(alike_for(net, place, base, image))
                for further in maps_over(base, nets[3])[:3]:
                    self.assertTrue(is_map(net, nets[3], [further[image] for image in images]))

    def test_rings(self):
        self.assertEqual(maps_over(ring("aaaaaa"), ring("aaa")), [[0, 1, 2, 0, 1, 2], [1, 2, 0, 1, 2, 0],
                                                                 [2, 0, 1, 2, 0, 1]])
        self.assertEqual(maps_over(ring("aaaa"), ring("aaa")), [])
        self.assertEqual(maps_over(ring("ab"), R), [])
        self.assertEqual(maps_over(R, ring("ab")), [[0, 1, 0, 1]])

    def test_as_lists_compare(self):
        net = Net(["b", "c", "a", "a", "c"], [(2, 0, "", ""), (3, 0, "", ""), (0, 1, "", ""), (0, 4, "", "")])
        self.assertEqual(maps_over(net, net), [[0, 1, 2, 3, 1], [0, 1, 2, 3, 4], [0, 1, 3, 2, 1], [0, 1, 3, 2, 4],
                                               [0, 4, 2, 3, 1], [0, 4, 2, 3, 4], [0, 4, 3, 2, 1], [0, 4, 3, 2, 4]])

    def test_limits(self):
        bare = Net(["a"] * 4, [])
        self.assertEqual(len(maps_over(Net(["a"] * 6, []), bare)), 4096)
        star = Net(["a"] * 7 + ["b"], [(i, 7, "", "") for i in range(6)])
        self.assertEqual(len(maps_over(star, star)), 720 * 7)
        whole = Net(["a"] * 8, [(i, j, "", "") for i in range(8) for j in range(8) if i != j])
        self.assertEqual(maps_over(whole, ring("a")), [])
        self.assertEqual(len(maps_over(whole, Net(["a"], [(0, 0, "", "")] * 7))), 1)

    def test_any_object(self):
        for thing in ANY_OBJECTS:
            self.assertIs(is_map(R, ring("ab"), thing), False, thing)
        self.assertIs(is_map(R, ring("ab"), (0, 1, 0, 1)), True)
        for thing in ([0, 1, 0], [0, 1, 0, 1, 0], [0, 1, 0, True], [0, 1, 0, None], [0, 1, 2, 1], [1, 0, 1, 0],
                      [0, 1, 0, -1], ["0", 1, 0, 1]):
            self.assertIs(is_map(R, ring("ab"), thing), False)
        self.assertIs(is_map(LONE, LONE, [0]), True)
        self.assertIs(is_map(LONE, LONE, (0,)), True)


class TestBothOver(unittest.TestCase):
    def test_over_both(self):
        nets = small(60) + [R, ring("ab"), S, LONE]
        met = set()
        for one, other in list(zip(nets, nets[1:])) + [(net, net) for net in nets]:
            pairs = alike_pairs(one, other)
            net = both_over(one=one, other=other)
            met.add(net is None)
            if net is None:
                self.assertEqual(pairs, [])
            else:
                self.assertTrue(is_map(net, one, [p for p, _ in pairs]))
                self.assertTrue(is_map(net, other, [q for _, q in pairs]))
        self.assertEqual(met, {True, False})

    def test_which_roads_are_joined(self):
        one = Net(["a", "a", "b"], [(0, 2, "", ""), (1, 2, "", ""), (1, 2, "x", "")])
        pairs = [(0, 0), (0, 1), (1, 0), (1, 1), (2, 2)]
        self.assertEqual(alike_pairs(one, one), pairs)
        self.assertEqual(both_over(one, one), Net(["a"] * 4 + ["b"], [(0, 4, "", ""), (3, 4, "", ""), (3, 4, "x", "")]))
        other = Net(["a", "a", "b"], [(1, 2, "", ""), (1, 2, "", ""), (0, 2, "x", "")])
        self.assertEqual(both_over(one, other),
                         Net(["a"] * 4 + ["b"], [(1, 4, "", ""), (3, 4, "", ""), (2, 4, "x", "")]))
