"""Point 24: lists of nets."""

import unittest

from samefromhere.alike import alike_for
from samefromhere.errors import BadNets, BadNumber
from samefromhere.kinds import kinds, rounds_needed
from samefromhere.madenets import beside
from samefromhere.netlists import kinds_of, parted_nets, rounds_of
from samefromhere.nets import Net
from tests.helpers import ANY_OBJECTS, LONE, R, S, random_net, ring


def lists_of_nets():
    nets = [random_net(seed, most=4, signs=1, road_words=1, roads=5) for seed in range(20)]
    return [nets[at:at + 3] for at in range(17)] + [[R, S], [R], [R, R, ring("ab")], [LONE, LONE], [S, LONE, ring("a")]]


class TestLists(unittest.TestCase):
    def test_kinds_of(self):
        for nets in lists_of_nets():
            pairs = [(index, place) for index, net in enumerate(nets) for place in range(len(net))]
            for rounds in list(range(4)) + [10 ** 8]:
                told = kinds_of(nets=nets, rounds=rounds)
                lots = []
                for index, place in pairs:
                    for lot in lots:
                        alike = alike_for(nets[lot[0][0]], lot[0][1], nets[index], place)
                        if alike is None or alike >= rounds:
                            lot.append((index, place))
                            break
                    else:
                        lots.append([(index, place)])
                self.assertEqual(told, lots)
                self.assertTrue(all(isinstance(lot, list) and isinstance(lot[0], tuple) for lot in told))
            self.assertEqual(rounds_of(nets=nets), rounds_needed(beside(nets)))
            needed = rounds_of(nets)
            self.assertEqual(kinds_of(nets, needed), kinds_of(nets, needed + 5))
            if needed:
                self.assertNotEqual(kinds_of(nets, needed), kinds_of(nets, needed - 1))

    def test_parted_nets(self):
        met = set()
        for nets in lists_of_nets():
            for rounds in range(4):
                told = parted_nets(nets=nets, rounds=rounds)
                found = []
                for i in range(len(nets)):
                    for j in range(i + 1, len(nets)):
                        alikes = [alike_for(nets[i], p, nets[j], q) for p in range(len(nets[i]))
                                  for q in range(len(nets[j]))]
                        if not any(alike is None or alike >= rounds for alike in alikes):
                            found.append((i, j))
                self.assertEqual(told, found)
                met.add(bool(told))
        self.assertEqual(met, {True, False})

    def test_one_net(self):
        self.assertEqual(kinds_of([R], 3), [[(0, place) for place in lot] for lot in kinds(R, 3)])
        self.assertEqual(parted_nets((R,), 0), [])
        self.assertEqual(parted_nets([R, S, R], 0), [(0, 1), (1, 2)])

    def test_errors(self):
        for function in (kinds_of, parted_nets, lambda nets, rounds: rounds_of(nets)):
            for thing in ANY_OBJECTS:
                if not isinstance(thing, (list, tuple)) or len(thing) == 0:
                    with self.assertRaises(BadNets) as caught:
                        function(thing, None)
                    self.assertEqual(caught.exception.index, 0)
                if not isinstance(thing, Net):
                    with self.assertRaises(BadNets) as caught:
                        function([R, S, thing, None], None)
                    self.assertEqual(caught.exception.index, 2)
        for function in (kinds_of, parted_nets):
            for thing in ANY_OBJECTS:
                if isinstance(thing, bool) or not isinstance(thing, int) or thing < 0:
                    with self.assertRaises(BadNumber) as caught:
                        function([R], thing)
                    self.assertIs(caught.exception.thing, thing)
