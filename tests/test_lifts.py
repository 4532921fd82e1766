"""Points 26, 27, 28, 32: lifts by picks, strong ones."""

import itertools
import random
import unittest

from samefromhere.errors import BadCopies, BadImages, BadPicks, NotStrong
from samefromhere.joins import lone_place, strong_lift
from samefromhere.kinds import kinds_for_ever, rounds_needed
from samefromhere.leastnets import is_map, least_net, maps_over
from samefromhere.liftcounts import count_picks
from samefromhere.lifts import lift, picks_back
from samefromhere.madenets import renamed
from samefromhere.nets import Net, roads_in
from samefromhere.plans import told
from samefromhere.shapes import is_strong
from tests.helpers import (ANY_OBJECTS, LONE, LOOPS, R, S, as_lists, as_tuples, mix_plan, random_net, ring, samples)

BASE = Net(["a", "b"], [(0, 0, "", ""), (0, 1, "", ""), (0, 1, "", ""), (1, 0, 1, 2)])


def random_picks(seed, base, most=3):
    pick = random.Random(seed)
    copies = [pick.randint(1, most) for _ in range(len(base))]
    picks = [[[pick.randrange(copies[road[0]]) for road in roads_in(base, place)] for _ in range(copies[place])]
             for place in range(len(base))]
    return copies, picks


def images_of(copies):
    return [place for place, many in enumerate(copies) for _ in range(many)]


def all_picks(base, copies):
    rows = []
    for place in range(len(base)):
        bounds = [range(copies[road[0]]) for road in roads_in(base, place)]
        rows.append(list(itertools.product(itertools.product(*bounds), repeat=copies[place])))
    return list(itertools.product(*rows))


def strong_bases():
    nets = [random_net(seed, most=3, signs=1, road_words=1, roads=5) for seed in range(150)]
    found = [net for net in nets if is_strong(net) and net.roads()]
    return found[:25] + [R, ring("a"), LOOPS, BASE, Net(["a", "b"], [(0, 0, "", ""), (0, 1, "", ""), (1, 0, "", "")])]


class TestLift(unittest.TestCase):
    def test_lift(self):
        copies = [2, 3]
        picks = [[[0, 2], [0, 1]], [[0, 1], [1, 1], [0, 0]]]
        net = lift(base=BASE, copies=copies, picks=picks)
        self.assertEqual([road[:2] for road in roads_in(BASE, 0)], [(0, 0), (1, 0)])
        self.assertEqual(net, Net(["a", "a", "b", "b", "b"], [
            (0, 0, "", ""), (4, 0, 1, 2), (0, 1, "", ""), (3, 1, 1, 2), (0, 2, "", ""), (1, 2, "", ""),
            (1, 3, "", ""), (1, 3, "", ""), (0, 4, "", ""), (0, 4, "", "")]))
        self.assertEqual(lift(BASE, tuple(copies), as_tuples(picks)), net)
        self.assertEqual((copies, picks), ([2, 3], [[[0, 2], [0, 1]], [[0, 1], [1, 1], [0, 0]]]))
        self.assertEqual(lift(LONE, [3], [[[], [], []]]), Net(["a"] * 3, []))

    def test_facts(self):
        for seed, base in enumerate(samples(30, most=4)):
            copies, picks = random_picks(seed, base)
            net = lift(base, copies, picks)
            images = images_of(copies)
            self.assertTrue(is_map(net, base, images))
            self.assertEqual(least_net(net), least_net(base))
            self.assertEqual(rounds_needed(net), rounds_needed(base))
            self.assertEqual([[images[place] for place in lot if images.index(images[place]) == place]
                              for lot in kinds_for_ever(net)], kinds_for_ever(base))
            answers = told(base, mix_plan(), 3)
            self.assertEqual(told(net, mix_plan(), 3), [answers[image] for image in images])

    def test_bad_copies(self):
        cases = [([], 0), ([1], 1), ([1, 1, 1], 2), ([0, 1], 0), ([1, 0], 1), ([1, True], 1), ([1, None], 1),
                 ([1, -1, 0], 1), ([1, 2, None], 2), ([[1], 1], 0), (["1", 1], 0)]
        cases += [(thing, 0) for thing in ANY_OBJECTS if not isinstance(thing, (list, tuple))]
        for copies, index in cases:
            for function in (lambda: lift(BASE, copies, None), lambda: count_picks(BASE, copies),
                             lambda: lone_place(BASE, copies), lambda: strong_lift(BASE, copies)):
                with self.assertRaises(BadCopies) as caught:
                    function()
                self.assertEqual(caught.exception.index, index, copies)

    def test_bad_picks(self):
        good = [[[0, 0], [1, 2]], [[0, 1], [1, 1], [0, 0]]]
        lift(BASE, [2, 3], good)
        cases = [([], 0), (good[:1], 1), (good + [[]], 2), (good + [None], 2)]
        for at in range(2):
            rows = good[at]
            for wrong in (rows[:-1], rows + rows[:1], [rows[0][:1]] + rows[1:], [rows[0] + [0]] + rows[1:],
                          rows[:-1] + [[0, 3]], rows[:-1] + [[-1, 0]], rows[:-1] + [[True, 0]],
                          rows[:-1] + [[0, None]], rows[:-1] + ["00"], rows[:-1] + [[0, [0]]], "ab"):
                cases.append((good[:at] + [wrong] + [None], at))
            for thing in ANY_OBJECTS:
                cases.append((good[:at] + [thing] + good[at + 1:], at))
                cases.append((good[:at] + [rows[:-1] + [thing]] + good[at + 1:], at))
        cases += [(thing, 0) for thing in ANY_OBJECTS if not isinstance(thing, (list, tuple))]
        for picks, index in cases:
            if picks and isinstance(picks, list) and picks[index:index + 1] == [((0, 0), [1, 2])]:
                continue
            if as_lists(picks) in ([good[0], [[0, 1], [1, 1], [0, 0]]], [[[0, 0], [0, 0]], good[1]]):
                continue
            with self.assertRaises(BadPicks) as caught:
                lift(BASE, [2, 3], picks)
            self.assertEqual(caught.exception.index, index, picks)
        with self.assertRaises(BadCopies):
            lift(BASE, [2], None)

    def test_first_copies_then_picks(self):
        with self.assertRaises(BadPicks) as caught:
            lift(LONE, [2], [[[]]])
        self.assertEqual(caught.exception.index, 0)


class TestBack(unittest.TestCase):
    def check(self, net, base, images):
        found = picks_back(net=net, base=base, images=images)
        whole = is_map(net, base, images) and set(images) == set(range(len(base)))
        self.assertEqual(found is not None, whole)
        if found is None:
            return False
        copies, order, picks = found
        self.assertEqual(found, as_tuples(found))
        self.assertEqual(renamed(net, order), lift(base, copies, picks))
        for place, later in itertools.combinations(range(len(net)), 2):
            if images[place] == images[later]:
                self.assertLess(order[place], order[later])
        for place, rows in enumerate(picks):
            come = roads_in(base, place)
            for row in rows:
                for at in range(len(row) - 1):
                    if come[at] == come[at + 1]:
                        self.assertLessEqual(row[at], row[at + 1])
        self.assertEqual(picks_back(net, base, tuple(images)), found)
        return True

    def test_lifts_renamed(self):
        for seed, base in enumerate(samples(40, most=4)):
            copies, picks = random_picks(seed, base)
            net = lift(base, copies, picks)
            order = list(range(len(net)))
            random.Random(seed).shuffle(order)
            images = [0] * len(net)
            for place, image in enumerate(images_of(copies)):
                images[order[place]] = image
            self.assertTrue(self.check(renamed(net, order), base, images))
            again, more = random_picks(seed + 1, net, 2)
            twice = lift(net, again, more)
            self.assertTrue(self.check(twice, base, [images_of(copies)[at] for at in images_of(again)]))

    def test_whatever_lies_over_the_base(self):
        nets = [random_net(seed, most=4, signs=1, road_words=1, roads=6) for seed in range(25)]
        count = 0
        for net, base in itertools.product(nets, repeat=2):
            for images in maps_over(net, base)[:5]:
                count += self.check(net, base, images)
            self.check(net, base, [0] * len(net))
        self.assertGreater(count, 20)

    def test_none(self):
        self.assertIsNone(picks_back(R, ring("ab"), [1, 0, 1, 0]))
        self.assertIsNone(picks_back(Net(["a", "a"], []), Net(["a", "a"], []), [1, 1]))
        self.assertIsNone(picks_back(ring("aaa"), ring("aa"), [0, 1, 0]))
        self.assertEqual(picks_back(Net(["a", "a"], []), LONE, [0, 0]), ((2,), (0, 1), (((), ()),)))
        self.assertEqual(picks_back(R, ring("ab"), [0, 1, 0, 1]), ((2, 2), (0, 2, 1, 3), (((1,), (0,)), ((0,), (1,)))))

    def test_bad_images(self):
        cases = [([], 0), ([0, 1, 0], 3), ([0, 1, 0, 1, 0], 4), ([0, 2, 0, 1], 1), ([0, 1, True, 1], 2),
                 ([0, 1, 0, None], 3), ([-1], 0), (["0", 1, 0, 1], 0), ([0, 1, 0, 1, None], 4), ([0, [1], 0, 1], 1)]
        cases += [(thing, 0) for thing in ANY_OBJECTS if not isinstance(thing, (list, tuple))]
        for images, index in cases:
            with self.assertRaises(BadImages) as caught:
                picks_back(R, ring("ab"), images)
            self.assertEqual(caught.exception.index, index, images)


class TestStrong(unittest.TestCase):
    def test_just_one(self):
        met = set()
        for base in strong_bases():
            for copies in itertools.product(range(1, 4), repeat=len(base)):
                lone = lone_place(base=base, copies=copies)
                picks = strong_lift(base=base, copies=list(copies))
                slots = [sum(copies[road[1]] for road in base.roads() if road[0] == place) for place in range(len(base))]
                lonely = [place for place in range(len(base)) if copies[place] > slots[place]]
                self.assertEqual(lone, lonely[0] if lonely else None)
                self.assertEqual(picks is None, bool(lonely))
                if picks is not None:
                    self.assertEqual(picks, as_tuples(picks))
                    self.assertTrue(is_strong(lift(base, copies, picks)))
                    self.assertEqual(strong_lift(base, copies), picks)
                met.add(lone)
        self.assertGreater(len(met), 2)

    def test_by_going_through_all(self):
        for base in strong_bases():
            for copies in itertools.product(range(1, 3), repeat=len(base)):
                if count_picks(base, copies) <= 3000:
                    strong = any(is_strong(lift(base, copies, picks)) for picks in all_picks(base, copies))
                    self.assertEqual(strong_lift(base, copies) is not None, strong)

    def test_limits(self):
        base = Net(["a"] * 5, [(i, (i + 1) % 5, "", "") for i in range(5)] * 3)
        self.assertTrue(is_strong(lift(base, [8] * 5, strong_lift(base, [8] * 5))))
        wide = Net(["a"] * 10, [(i, (i + 1) % 10, "", "") for i in range(10)] + [(i, i, 0, 0) for i in range(10)])
        self.assertTrue(is_strong(lift(wide, [4] * 10, strong_lift(wide, [4] * 10))))
        self.assertIsNone(lone_place(wide, [1, 2, 4, 8, 8, 5, 4, 4, 2, 2]))

    def test_not_strong(self):
        for net in (S, LONE, Net(["a", "a"], []), Net(["a", "a"], [(0, 1, "", "")])):
            for function in (lone_place, strong_lift):
                with self.assertRaises(NotStrong) as caught:
                    function(net, None)
                self.assertIs(caught.exception.thing, net)
