"""Points 12, 13: kinds and ranks."""

import itertools
import random
import unittest

from samefromhere.errors import BadNumber
from samefromhere.kinds import kinds, kinds_for_ever, ranks, rounds_needed
from samefromhere.madenets import beside, renamed
from samefromhere.nets import Net
from samefromhere.plans import states
from tests.helpers import (ANY_OBJECTS, LONE, R, S, compare_words, mix_plan, ring, samples, slow_kinds, slow_view)


def slow_ranks(net):
    """Point 13 word by word, with words themselves put in order."""
    def numbers(words):
        unlike = []
        for word in words:
            if word not in unlike:
                unlike.append(word)
        return [sum(compare_words(other, word) < 0 for other in unlike) for word in words]

    found = numbers(net.signs())
    while True:
        rows = []
        for place, rank in enumerate(found):
            triples = [(into, out, found[one]) for one, other, out, into in net.roads() if other == place]
            for _ in triples:
                for at in range(len(triples) - 1):
                    if compare_words(triples[at], triples[at + 1]) > 0:
                        triples[at], triples[at + 1] = triples[at + 1], triples[at]
            rows.append((rank, tuple(triples)))
        later = numbers(rows)
        if len(set(later)) == len(set(found)):
            return later
        found = later


class TestKinds(unittest.TestCase):
    def test_equal_views(self):
        for net in samples():
            for rounds in range(4):
                views = [slow_view(net, place, rounds) for place in range(len(net))]
                lots = []
                for place, seen in enumerate(views):
                    if views.index(seen) == place:
                        lots.append([other for other in range(len(net)) if views[other] == seen])
                self.assertEqual(kinds(net=net, rounds=rounds), lots)

    def test_for_ever(self):
        for net in samples(60, most=8, roads=10):
            found = slow_kinds(net, len(net) + 2)
            self.assertEqual(kinds_for_ever(net=net), found)
            self.assertEqual(kinds(net, 10 ** 9 - 1), found)
            needed = rounds_needed(net=net)
            self.assertLess(needed, len(net))
            self.assertEqual(needed, min(r for r in range(len(net) + 1) if slow_kinds(net, r) == found))
            for rounds in range(needed):
                self.assertLess(len(kinds(net, rounds)), len(kinds(net, rounds + 1)))

    def test_no_plan_tells_one_kind_apart(self):
        for net in samples(15):
            for plan, rounds in itertools.product((mix_plan(), mix_plan(1000)), range(5)):
                stand = states(net, plan, rounds)
                for lot in kinds(net, rounds):
                    self.assertEqual(len({stand[place] for place in lot}), 1)

    def test_edges(self):
        self.assertEqual(kinds(LONE, 0), [[0]])
        self.assertEqual((kinds_for_ever(LONE), rounds_needed(LONE), ranks(LONE)), ([[0]], 0, [0]))
        bare = Net(["a", "b", "a"], [])
        self.assertEqual((kinds(bare, 5), rounds_needed(bare), ranks(bare)), ([[0, 2], [1]], 0, [0, 1, 0]))
        unlike = Net([3, 2, 1, 0], R.roads())
        self.assertEqual((rounds_needed(unlike), ranks(unlike)), (0, [3, 2, 1, 0]))
        self.assertEqual(rounds_needed(ring("aaaa")), 0)
        row = Net(["a"] * 40, [(i, i + 1, "", "") for i in range(39)])
        self.assertEqual(rounds_needed(row), 39)
        self.assertEqual(len(kinds(row, 10)), 11)

    def test_huge_views_are_not_written(self):
        net = Net(["a"] * 39 + ["b"], [(i, (i + 1) % 40, 0, 0) for i in range(40)] * 5)
        self.assertEqual(rounds_needed(net), 38)
        self.assertEqual(len(kinds(net, 999999999)), 40)

    def test_bad_number(self):
        for thing in ANY_OBJECTS:
            if isinstance(thing, bool) or not isinstance(thing, int) or thing < 0:
                with self.assertRaises(BadNumber) as caught:
                    kinds(R, thing)
                self.assertIs(caught.exception.thing, thing)

    def test_told_lists_are_new(self):
        for function in (lambda: kinds(R, 1), lambda: kinds_for_ever(R), lambda: ranks(R)):
            told = function()
            self.assertIsInstance(told, list)
            first = str(told)
            told[0] = None
            self.assertEqual(str(function()), first)


class TestRanks(unittest.TestCase):
    def test_word_by_word(self):
        for net in samples(60):
            self.assertEqual(ranks(net=net), slow_ranks(net))

    def test_words_of_several_kinds(self):
        net = Net([(), "", -1, "a", 10, ("",), (0,), ((),)], [])
        self.assertEqual(ranks(net), [4, 2, 0, 3, 1, 6, 5, 7])
        roads = [(0, 1, (), 1), (0, 2, "", 1), (0, 3, 5, 1), (0, 4, 0, "x")]
        self.assertEqual(ranks(Net(["a"] * 5, roads)), [0, 3, 2, 1, 4])

    def test_renamed_nets_have_the_same(self):
        for seed, net in enumerate(samples()):
            order = list(range(len(net)))
            random.Random(seed).shuffle(order)
            moved = ranks(renamed(net, order))
            self.assertEqual([moved[order[place]] for place in range(len(net))], ranks(net))

    def test_ranks_hang_on_views_alone(self):
        for net in samples():
            twice = ranks(beside([net, net]))
            self.assertEqual(twice, ranks(net) + ranks(net))
            lots = {}
            for place, rank in enumerate(ranks(net)):
                lots.setdefault(rank, []).append(place)
            self.assertEqual(sorted(lots.values()), kinds_for_ever(net))
        self.assertEqual(ranks(S), [0, 1, 1])
