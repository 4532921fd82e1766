"""Points 101, 102: searchers that find out where they stand, in as few moves as can be."""

import itertools
import random
import unittest

from samefromhere.errors import BadNets, BadNumber, BadWalker, NoMove, NoPlace, NotJoined, NotTwoWay
from samefromhere.finders import fewest_moves, finder, search
from samefromhere.kinds import kinds_for_ever
from samefromhere.madenets import beside
from samefromhere.nets import Net, marks
from samefromhere.walks import walk_places, walk_seen
from tests.helpers import (ANY_OBJECTS, HALF, LONE, PATH, R, S, TREE_HALF, TWO_WAYS, as_lists, faults, random_shut,
                           random_two_way, two_way)
from tests.test_walks import door_of, walker_errors

APART = two_way(["a", "a"], [])
MARKED_RING = two_way(["b", "a", "a", "a"], [(i, (i + 1) % 4, "r", "l") for i in range(4)])
LONG = two_way(["a"] * 7 + ["b"], [(i, (i + 1) % 8, "r", "l") for i in range(8)])


def lists_of_nets():
    nets = TWO_WAYS + [random_two_way(seed, 4) for seed in range(40)] + [random_shut(seed, 4) for seed in range(10)]
    found = [[net] for net in nets] + [[MARKED_RING], [LONG], [PATH, PATH], [LONE, HALF], [PATH, TREE_HALF],
                                       [two_way(["a"] * 3, [(0, 1, "r", "l"), (1, 2, "r", "l")]), MARKED_RING]]
    pick = random.Random(7)
    for _ in range(30):
        lot = pick.sample(nets, 2)
        if sum(map(len, lot)) <= 6:
            found.append(lot)
    ring = [(i, (i + 1) % 4, "r", "l") for i in range(4)]
    found.append([two_way(list(signs), ring) for signs in ("aabb", "abab")])
    found.append([two_way(list(signs), ring) for signs in ("aaab", "aabb")])
    return found


NETS = lists_of_nets()


def chance_searcher(seed, last):
    """A searcher that goes as by chance, and tells all that it has seen behind so many moves."""
    def searcher(seen):
        pick = random.Random(str((seed, seen)))
        if len(seen) > last:
            return ["told", seen]
        return "go", pick.choice(list(seen[-1][1]) + [None])

    return searcher


def slow_search(net, place, searcher, moves):
    row = []
    while True:
        thing = searcher(tuple(walk_seen(net, place, row)))
        if thing[0] != "go":
            return len(row), thing
        if len(row) == moves:
            return None
        row.append(thing[1])


class TestSearch(unittest.TestCase):
    def test_runs(self):
        met = set()
        for nets in NETS[:40]:
            for place in range(len(nets[0])):
                for last, moves in ((0, 0), (0, 3), (3, 3), (3, 2), (4, 9)):
                    told = search(net=nets[0], place=place, searcher=chance_searcher(last, last), moves=moves)
                    self.assertEqual(told, slow_search(nets[0], place, chance_searcher(last, last), moves))
                    self.assertEqual(told is None, last > moves)
                    met.add(told is None)
        self.assertEqual(met, {True, False})

    def test_any_object_is_told(self):
        for thing in ANY_OBJECTS + [("go",), ("go", None, None), ["go"], "go", ("Go", None), ("stay", "r"), (["go"], 0)]:
            told = search(PATH, 0, lambda seen: thing, 0)
            self.assertIs(type(told), tuple)
            self.assertEqual(told[0], 0)
            self.assertIs(told[1], thing)

    def test_moves(self):
        for go in (("go", "r"), ["go", "r"]):
            self.assertEqual(search(PATH, 0, lambda seen: go if len(seen) < 3 else len(seen), 2), (2, 3))
        self.assertIsNone(search(PATH, 0, lambda seen: ("go", None), 5))
        net = two_way(["a", "b"], [(0, 1, ("d", ()), 0)])
        self.assertEqual(search(net, 0, lambda seen: ["go", ["d", []]] if len(seen) < 2 else seen[-1], 1),
                         (1, ("b", (0,), 0)))

    def test_no_move(self):
        for thing in ANY_OBJECTS:
            if thing is not None:
                go = ("go", thing)
                faults(lambda move: search(PATH, 0, lambda seen: go, 1), NoMove, "thing", [(thing, thing)])
                # Behind the last move it is not looked at.
                self.assertIsNone(search(PATH, 0, lambda seen: go, 0))

    def test_errors_in_order(self):
        walker_errors(self, lambda net: search(net, None, None, None))
        faults(lambda place: search(PATH, place, None, None), NoPlace, "thing",
               [(thing, thing) for thing in ANY_OBJECTS + [3] if type(thing) is not int or not 0 <= thing < 3])
        faults(lambda searcher: search(PATH, 0, searcher, None), BadWalker, "thing",
               [(thing, thing) for thing in ANY_OBJECTS if not callable(thing)])
        faults(lambda moves: search(PATH, 0, len, moves), BadNumber, "thing",
               [(thing, thing) for thing in ANY_OBJECTS if type(thing) is not int or thing < 0])

        def searcher(seen):
            raise KeyError

        with self.assertRaises(KeyError):
            search(PATH, 0, searcher, 0)

    def test_asked_with_all_seen(self):
        asked = []

        def searcher(seen):
            asked.append(seen)
            return "go", "r" if seen[-1][1] != ("l",) else "l"

        search(PATH, 0, searcher, 4)
        self.assertEqual(asked, [tuple(walk_seen(PATH, 0, ["r", "r", "l", "r"])[:many]) for many in range(1, 6)])


def slow_fewest(nets):
    """Going through lots, the lists of (net, place), by all rows of doors; None behind as many moves as there are
    lots."""
    spots = [(index, place) for index, net in enumerate(nets) for place in range(len(net))]

    def look(spot):
        index, place = spot
        return nets[index].signs()[place], tuple(marks(nets[index], place))

    def parts(lot, mark):
        found = {}
        for index, place in lot:
            other, came = door_of(nets[index], place, mark)
            found.setdefault((look((index, other)), came), set()).add((index, other))
        return [frozenset(part) for part in found.values()]

    begun = {}
    for spot in spots:
        begun.setdefault(look(spot), set()).add(spot)
    begun = [frozenset(lot) for lot in begun.values()]
    known = {}

    def within(lot, moves):
        if len(lot) == 1:
            return True
        if moves == 0:
            return False
        if (lot, moves) not in known:
            index, place = min(lot)
            known[lot, moves] = any(all(within(part, moves - 1) for part in parts(lot, mark))
                                    for mark in marks(nets[index], place))
        return known[lot, moves]

    for moves in range(2 ** len(spots) if len(spots) < 5 else 20):
        if all(within(lot, moves) for lot in begun):
            return moves
    return None


class TestFinder(unittest.TestCase):
    def test_finds_in_fewest_moves(self):
        met = set()
        for nets in NETS:
            unlike = all(len(lot) == 1 for lot in kinds_for_ever(beside(nets)))
            searcher = finder(nets=nets)
            fewest = fewest_moves(nets=nets)
            self.assertEqual(searcher is not None, unlike)
            self.assertEqual(fewest, slow_fewest(nets))
            met.add(fewest)
            if not unlike:
                continue
            most = 0
            for index, net in enumerate(nets):
                for place in range(len(net)):
                    moves, told = search(net, place, searcher, 600)
                    row = []
                    while len(row) < moves:
                        row.append(searcher(tuple(walk_seen(net, place, row)))[1])
                    self.assertEqual(told, ("here", index, walk_places(net, place, row)[-1]))
                    self.assertIs(type(told), tuple)
                    most = max(most, moves)
            self.assertEqual(most, fewest)
        self.assertLessEqual({None, 0, 1, 2}, met)

    def test_the_same_each_time(self):
        for nets in NETS:
            searcher = finder(nets)
            if searcher is not None:
                again = finder(tuple(Net(as_lists(net.signs()), as_lists(net.roads())[::-1]) for net in nets))
                for net in nets:
                    for place in range(len(net)):
                        row = []
                        seen = walk_seen(net, place, row)
                        while searcher(tuple(seen))[0] == "go":
                            self.assertEqual(searcher(tuple(seen)), again(as_lists(seen)))
                            row.append(searcher(seen)[1])
                            seen = walk_seen(net, place, row)
                        self.assertEqual(searcher(tuple(seen)), again(as_lists(seen)))

    def test_more_seen_than_needed(self):
        """Who goes on behind what is told is told where it was found out, or anything; but no error is raised."""
        searcher = finder([MARKED_RING])
        seen = walk_seen(MARKED_RING, 2, ["r", "r", "l", None, "l"])
        for many in range(1, 7):
            searcher(tuple(seen[:many]))
        searcher((("strange", ("r",), None),))
        searcher((("a", ("l", "r"), None), ("strange", (), "r"), ("a", ("l", "r"), None)))

    def test_long_way(self):
        self.assertEqual(fewest_moves([LONG]), slow_fewest([LONG]))
        self.assertGreater(fewest_moves([LONG]), 2)

    def test_what_was_passed_is_changed(self):
        nets = [MARKED_RING]
        searcher = finder(nets)
        nets.clear()
        self.assertEqual(search(MARKED_RING, 0, searcher, 5), (0, ("here", 0, 0)))

    def test_errors(self):
        for call in (finder, fewest_moves):
            pairs = [(thing, 0) for thing in ANY_OBJECTS if not isinstance(thing, (list, tuple))] + [([], 0), ((), 0)]
            for thing in ANY_OBJECTS:
                if not isinstance(thing, Net):
                    pairs += [([thing], 0), ([R, thing, thing], 1), ((APART, R, thing), 2)]
            faults(call, BadNets, "index", pairs)
            faults(call, NotTwoWay, "thing", [([R], R), ([PATH, S, R], S), ((PATH, R, APART), R)])
            faults(call, NotJoined, "thing", [([APART], APART), ((PATH, APART, R), APART)])

    def test_limits(self):
        pick = random.Random(3)
        for _ in range(10):
            nets = [random_two_way(pick.randrange(10 ** 6), 5) for _ in range(2)]
            self.assertEqual(fewest_moves(nets) is None, finder(nets) is None)
        lone = [two_way([number], []) for number in range(8)]
        self.assertEqual(fewest_moves(lone), 0)
        self.assertEqual([search(net, 0, finder(lone), 0) for net in lone], [(0, ("here", at, 0)) for at in range(8)])


if __name__ == "__main__":
    unittest.main()
