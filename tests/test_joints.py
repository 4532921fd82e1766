"""Points 62, 64, 65: joint nets, strong nets, guesses."""

import itertools
import random
import unittest

from samefromhere.errors import BadView, BadViews, NotStrong
from samefromhere.finals import final_net, is_final
from samefromhere.guesses import guess, settled_after
from samefromhere.joints import joint_net, strong_net, views_clash
from samefromhere.leastnets import least_net
from samefromhere.nets import Net
from samefromhere.shapes import is_joined, is_strong, is_two_way
from samefromhere.views import view
from tests.helpers import (ANY_OBJECTS, HALF, LONE, LOOPS, R, S, as_lists, faults, random_net, ring, samples,
                           slow_door_view)
from tests.test_finals import K, ONE_WAY, SEEN

SMALL = [seen for seen, _, _, _ in SEEN if len(str(seen)) < 400]


def view_lists():
    """Lists of views of two-way nets: of one net, and of several."""
    pick = random.Random(3)
    found = [[seen] for seen in SMALL[:40]]
    by_net = {}
    for seen, net, _, _ in SEEN:
        by_net.setdefault(str((net.signs(), net.roads())), []).append(seen)
    for lot in by_net.values():
        found += [pick.sample(lot, min(len(lot), size)) for size in (2, 2, 3, 4)]
    finals = [seen for seen in SMALL if is_final(seen)]
    for _ in range(120):
        found.append([pick.choice(SMALL) for _ in range(pick.randint(2, 4))])
        found.append([pick.choice(finals), pick.choice(SMALL)])
    return found


def bad_view_lists(is_good):
    pairs = [(thing, 0) for thing in ANY_OBJECTS if not isinstance(thing, (list, tuple))] + [([], 0), ((), 0)]
    good = (0, "a", ())
    for thing in ANY_OBJECTS + ONE_WAY + [(1, "a", None), (True, "a", ())]:
        if not is_good(thing):
            pairs += [([thing], 0), ((good, thing, thing), 1), ([good, as_lists(good), good, thing, good], 3)]
    return pairs


class TestJointNets(unittest.TestCase):
    def test_joint_or_clash(self):
        found = {True: 0, False: 0}
        for views in view_lists():
            clash = views_clash(views=views)
            joint = joint_net(views=views)
            self.assertNotEqual(clash is None, joint is None)
            found[joint is None] += 1
            if joint is None:
                self.assertIsInstance(clash, tuple)
                continue
            self.assertIsInstance(joint, tuple)
            net, places = joint
            self.assertTrue(is_two_way(net) and is_joined(net))
            self.assertIsInstance(places, list)
            self.assertEqual([view(net, place, seen[0]) for place, seen in zip(places, views)], list(views))
            again = joint_net(as_lists(views))
            self.assertEqual(again, joint)
        self.assertGreater(min(found.values()), 50)

    def test_least_pair(self):
        for views in view_lists():
            wanted = None
            for i, j in itertools.product(range(len(views)), repeat=2):
                if wanted is None and is_final(views[i]):
                    net = final_net(views[i])
                    if views[j] not in [view(net, place, views[j][0]) for place in range(len(net))]:
                        wanted = (i, j)
            self.assertEqual(views_clash(tuple(views)), wanted)

    def test_both_sides_of_a_clash(self):
        end = view(K, 0, 2)
        other = (0, "b", ())
        self.assertEqual(views_clash([end, other]), (0, 1))
        self.assertEqual(views_clash([other, end]), (1, 0))
        self.assertEqual(views_clash([view(LONE, 0, 1), end]), (0, 1))
        self.assertIsNone(views_clash([end, end, (0, "a", ())]))

    def test_errors(self):
        def is_good(thing):
            return any(thing is seen for seen in ONE_WAY) and slow_door_view(thing)

        for call in (joint_net, views_clash):
            faults(call, BadViews, "index", bad_view_lists(is_good))

    def test_limits(self):
        views = [view(LOOPS, 0, 7), view(K, 1, 1), (0, "q", ()), view(HALF, 0, 1)]
        net, places = joint_net(views)
        self.assertEqual([view(net, place, seen[0]) for place, seen in zip(places, views)], views)


def is_deaf(seen):
    return seen[0] > 0 and seen[2] == () or any(is_deaf(below) for _, _, below in seen[2])


class TestStrongNets(unittest.TestCase):
    def views(self):
        pick = random.Random(5)
        found = []
        for net in samples(60):
            for place in range(len(net)):
                for rounds in range(4):
                    seen = view(net, place, rounds)
                    if len(str(seen)) < 600:
                        found.append(seen)
        lists = [[seen] for seen in found]
        heard = [seen for seen in found if not is_deaf(seen)]
        for many in (2, 3, 4):
            lists += [[pick.choice(heard) for _ in range(many)] for _ in range(60)]
            lists += [[pick.choice(found) for _ in range(many)] for _ in range(10)]
        return lists

    def test_none_just_if_deaf(self):
        found = {True: 0, False: 0}
        for views in self.views():
            told = strong_net(views=views)
            lone = all(seen[1:] == (views[0][1], ()) for seen in views)
            self.assertEqual(told is None, any(is_deaf(seen) for seen in views) and not lone)
            found[told is None] += 1
            if told is None:
                continue
            net, places = told
            self.assertIsInstance(told, tuple)
            self.assertIsInstance(places, list)
            self.assertTrue(is_strong(net))
            self.assertEqual([view(net, place, seen[0]) for place, seen in zip(places, views)], views)
            self.assertEqual(strong_net(as_lists(views)), told)
        self.assertGreater(min(found.values()), 50)

    def test_one_place_alone(self):
        for views in ([(3, "a", ())], [(1, "a", ()), (0, "a", ()), (9, "a", ())], [(0, "a", ())]):
            net, places = strong_net(views)
            self.assertTrue(is_strong(net))
            self.assertEqual([view(net, place, seen[0]) for place, seen in zip(places, views)], views)
        self.assertIsNone(strong_net([(3, "a", ()), (0, "b", ())]))
        self.assertIsNone(strong_net([(3, "a", ()), view(R, 0, 1)]))
        self.assertIsNotNone(strong_net([(0, "a", ()), (0, "b", ()), (0, "a", ())]))

    def test_errors(self):
        faults(strong_net, BadViews, "index", bad_view_lists(lambda thing: thing in ONE_WAY))

    def test_limits(self):
        views = [view(R, place, 12) for place in range(4)]
        net, places = strong_net(views)
        self.assertTrue(is_strong(net))
        self.assertEqual([view(net, place, 12) for place in places], views)
        views = [view(LOOPS, 0, 7), view(Net(["s"], [(0, 0, 0, 0)] * 7), 0, 4)]
        net, places = strong_net(views)
        self.assertTrue(is_strong(net))
        self.assertEqual([view(net, places[0], 7), view(net, places[1], 4)], views)


def cut(seen, rounds):
    if rounds == 0:
        return 0, seen[1], ()
    from tests.helpers import ascending
    return rounds, seen[1], tuple(ascending((into, out, cut(below, rounds - 1)) for into, out, below in seen[2]))


def slow_guess(seen):
    """Told straight from point 65."""
    rounds = seen[0]
    if rounds == 0:
        return None
    half = rounds // 2
    within = [seen]
    level = [seen]
    for _ in range(rounds - half - 1):
        level = [below for inner in level for _, _, below in inner[2]]
        within += level
    places = []
    tells = []
    for inner in within:
        short = cut(inner, half)
        roads = cut(inner, half + 1)[2]
        if short in places and tells[places.index(short)] != roads:
            return None
        if short not in places:
            places.append(short)
            tells.append(roads)
    roads = []
    for at, row in enumerate(tells):
        for into, out, below in row:
            if below not in places:
                return None
            roads.append((places.index(below), at, out, into))
    return least_net(Net([short[1] for short in places], roads))


STRONG = [net for net in samples(60, most=5) if is_strong(net)] + [ring("ab"), ring("aab"), ring("abcab"), ring("aaaab")]


class TestGuesses(unittest.TestCase):
    def test_guess(self):
        told = {True: 0, False: 0}
        for net in samples(40, most=5) + STRONG:
            for place in range(len(net)):
                for rounds in range(6):
                    seen = view(net, place, rounds)
                    if len(str(seen)) > 3000:
                        continue
                    wanted = slow_guess(seen)
                    self.assertEqual(guess(seen=seen), wanted)
                    self.assertEqual(guess(as_lists(seen)), wanted)
                    told[wanted is None] += 1
        self.assertGreater(min(told.values()), 200)

    def test_edges(self):
        self.assertIsNone(guess((0, "a", ())))
        self.assertEqual(guess((1, "a", ())), LONE)
        self.assertEqual(guess((1, "a", ((0, 1, (0, "a", ())),))), Net(["a"], [(0, 0, 1, 0)]))
        self.assertIsNone(guess((1, "a", ((0, 1, (0, "b", ())),))))

    def test_errors(self):
        things = ANY_OBJECTS + [(1, "a", ((1, 0, (0, "a", ())), (0, 0, (0, "a", ())))), (True, "a", ())]
        faults(guess, BadView, "thing", [(thing, thing) for thing in things])

    def test_settled(self):
        for net in STRONG:
            after = settled_after(net=net)
            least = least_net(net)
            self.assertLessEqual(after, 2 * len(net) - 1)
            views = {rounds: [view(net, place, rounds) for place in range(len(net))]
                     for rounds in range(max(after - 1, 0), after + 3)}
            if len(str(views)) > 40000:
                continue
            for rounds, row in views.items():
                if rounds >= after:
                    self.assertEqual([guess(seen) for seen in row], [least] * len(net))
            if after:
                self.assertFalse(all(guess(seen) == least for seen in views[after - 1]))

    def test_settled_edges(self):
        self.assertEqual(settled_after(LONE), 1)
        self.assertEqual(settled_after(ring("a")), 1)
        self.assertEqual(settled_after(R), 3)
        faults(settled_after, NotStrong, "thing", [(net, net) for net in (S, Net(["a"] * 2, []), random_net(0))
                                                   if not is_strong(net)])

    def test_limits(self):
        net = Net(["a"] * 5 + ["b"], [(i, (i + 1) % 6, "", "") for i in range(6)] + [(3, i, 0, 1) for i in range(6)]
                  + [(i, 0, 1, 1) for i in range(2)])
        self.assertLessEqual(settled_after(net), 11)
        row = ring("aaaaab")
        self.assertEqual([guess(view(row, place, 12)) for place in range(6)], [least_net(row)] * 6)


if __name__ == "__main__":
    unittest.main()
