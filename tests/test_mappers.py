"""Points 103, 104: walkers that draw their net, with a mark and without one."""

import unittest

from samefromhere.errors import BadNumber, BadWalker, NoMove, NoPlace
from samefromhere.finders import search
from samefromhere.leastnets import least_net
from samefromhere.madenets import renamed
from samefromhere.mappers import lone_mapper, mapper, marked_search
from samefromhere.nets import Net
from samefromhere.shapes import is_joined
from samefromhere.shutnets import is_shut
from samefromhere.walks import walk_seen
from tests.helpers import (ANY_OBJECTS, HALF, LONE, LOOPS, PATH, TREE_HALF, TRIANGLE, TWO_WAYS, as_lists, faults,
                           random_shut, random_two_way, two_way)
from tests.test_walks import WORDY, door_of, walker_errors

RING = two_way(["a"] * 5, [(i, (i + 1) % 5, "r", "l") for i in range(5)])
CROWD = two_way(["a"], [(0, 0, 0, 1), (0, 0, 2, 3), (0, 0, 4, 4), (0, 0, ("x",), "y"), (0, 0, "h", "h")])
THICK = two_way(["a", "a"], [(0, 1, number, number) for number in range(5)])
NETS = TWO_WAYS + [WORDY, RING, CROWD, THICK] + [random_two_way(seed) for seed in range(40)]
NETS += [random_shut(seed) for seed in range(20)]


def is_turn(thing):
    return isinstance(thing, (list, tuple)) and tuple(thing[:1]) in (("go",), ("lay",), ("take",)) and \
        len(thing) == (2 if thing[0] == "go" else 1)


def slow_marked(net, place, searcher, turns):
    """The triple (how many turns, what is told, the place where it stands then), told straight from point 103."""
    lies = None
    came = None
    seen = []
    while True:
        sign, doors, _ = walk_seen(net, place, [])[0]
        seen.append((sign, doors, came, lies == place))
        thing = searcher(tuple(seen))
        if not is_turn(thing):
            return len(seen) - 1, thing, place
        if len(seen) > turns:
            return None
        if thing[0] == "go" and thing[1] is not None:
            place, came = door_of(net, place, thing[1])
        else:
            came = None
            lies = {"go": lies, "lay": place, "take": None}[thing[0]]


def order_by_doors(net, drawn, place, spot):
    """Where each place of a joined net must be in what is drawn, if this place is there that spot."""
    order = {place: spot}
    todo = [place]
    while todo:
        near = todo.pop()
        for one, other, out, _ in net.roads():
            if one == near and other not in order:
                order[other] = door_of(drawn, order[near], out)[0]
                todo.append(other)
    return [order[near] for near in range(len(net))]


def script(*turns):
    """A searcher that takes these turns and tells all that it has seen."""
    return lambda seen: turns[len(seen) - 1] if len(seen) <= len(turns) else ("seen", seen)


class TestMarkedSearch(unittest.TestCase):
    def test_turns(self):
        turns = [("go", "r"), ("lay",), ("go", None), ["go", "r"], ("go", "l"), ("take",), ("go", "l"), ["lay"], ["take"]]
        told = marked_search(net=PATH, place=0, searcher=script(*turns), turns=9)
        near, middle, far = ("a", ("r",)), ("a", ("l", "r")), ("a", ("l",))
        self.assertEqual(told, (9, ("seen", ((*near, None, False), (*middle, "l", False), (*middle, None, True),
                                             (*middle, None, True), (*far, "l", False), (*middle, "r", True),
                                             (*middle, None, False), (*near, "r", False), (*near, None, True),
                                             (*near, None, False)))))
        self.assertTrue(all(type(row) is tuple and type(row[3]) is bool for row in told[1][1]))
        self.assertIsNone(marked_search(PATH, 0, script(*turns), 8))

    def test_any_object_is_told(self):
        for thing in ANY_OBJECTS + [("go",), ("go", None, None), ("lay", None), ["take", 0], "lay", ("Lay",), (["lay"],)]:
            told = marked_search(PATH, 0, lambda seen: thing, 0)
            self.assertEqual(told[0], 0)
            self.assertIs(told[1], thing)

    def test_no_move(self):
        for thing in ANY_OBJECTS + ["l", ["r"]]:
            if thing is not None:
                for go in (("go", thing), ["go", thing]):
                    faults(lambda turn: marked_search(PATH, 0, script(turn), 1), NoMove, "thing", [(go, go)])
                    self.assertIsNone(marked_search(PATH, 0, script(go), 0))
        lay, take = ("lay",), ["take"]
        for turns in ((("lay",), lay), (("lay",), ("go", "r"), lay), (take,), (("lay",), ("take",), take),
                      (("lay",), ("go", "r"), take)):
            with self.assertRaises(NoMove) as caught:
                marked_search(PATH, 0, script(*turns), 9)
            self.assertIs(caught.exception.thing, turns[-1])
            self.assertIsNone(marked_search(PATH, 0, script(*turns), len(turns) - 1))

    def test_errors_in_order(self):
        walker_errors(self, lambda net: marked_search(net, None, None, None))
        faults(lambda place: marked_search(PATH, place, None, None), NoPlace, "thing",
               [(thing, thing) for thing in ANY_OBJECTS + [3] if type(thing) is not int or not 0 <= thing < 3])
        faults(lambda searcher: marked_search(PATH, 0, searcher, None), BadWalker, "thing",
               [(thing, thing) for thing in ANY_OBJECTS if not callable(thing)])
        faults(lambda turns: marked_search(PATH, 0, len, turns), BadNumber, "thing",
               [(thing, thing) for thing in ANY_OBJECTS if type(thing) is not int or thing < 0])

        def searcher(seen):
            raise KeyError

        with self.assertRaises(KeyError):
            marked_search(PATH, 0, searcher, 0)


class TestMapper(unittest.TestCase):
    def test_draws_every_joined_net(self):
        searcher = mapper()
        for net in NETS:
            self.assertTrue(is_joined(net))
            most = 8 * len(net) * (len(net.roads()) + 1)
            for place in range(len(net)):
                turns, told, end = slow_marked(net, place, searcher, most)
                self.assertEqual(marked_search(net, place, searcher, most), (turns, told))
                self.assertIsNone(marked_search(net, place, mapper(), turns - 1) if turns else None)
                word, drawn, spot = told
                self.assertEqual([word, type(told), type(drawn)], ["map", tuple, Net])
                self.assertEqual(renamed(net, order_by_doors(net, drawn, end, spot)), drawn)

    def test_tells_at_once_without_doors(self):
        self.assertEqual(marked_search(LONE, 0, mapper(), 0), (0, ("map", LONE, 0)))

    def test_the_same_each_time(self):
        one, other = mapper(), mapper()
        for net in NETS[:25]:
            seen = []

            def both(told):
                self.assertEqual(one(told), other(list(told)))
                seen.append(told)
                return one(told)

            marked_search(net, 0, both, 1000)
            for told in seen[::-1]:
                self.assertEqual(one(told), other(told))

    def test_lists_for_tuples(self):
        for net in (WORDY, CROWD):
            told = marked_search(net, 0, lambda seen: mapper()(as_lists(seen)), 1000)
            self.assertEqual(told, marked_search(net, 0, mapper(), 1000))


class TestLoneMapper(unittest.TestCase):
    def test_tells_the_least_net_of_shut_nets_alone(self):
        searcher = lone_mapper()
        met = set()
        for net in NETS + [random_shut(seed, 5) for seed in range(20, 50)]:
            for place in range(len(net)):
                if is_shut(net):
                    moves, told = search(net, place, searcher, 8 * len(net))
                    self.assertEqual(told, ("least", least_net(net)))
                    self.assertIs(type(told), tuple)
                else:
                    self.assertIsNone(search(net, place, searcher, 150))
            met.add((is_shut(net), len(least_net(net)) < len(net)))
        self.assertEqual(len(met), 4)

    def test_edges(self):
        self.assertEqual(search(LONE, 0, lone_mapper(), 0), (0, ("least", LONE)))
        self.assertEqual(search(HALF, 0, lone_mapper(), 8)[1], ("least", HALF))
        self.assertEqual(search(TREE_HALF, 1, lone_mapper(), 16)[1], ("least", least_net(TREE_HALF)))
        pair = two_way(["a", "a"], [(0, 1, "x", "x")])
        self.assertEqual(search(pair, 1, lone_mapper(), 16)[1], ("least", HALF_A))
        for net in (LOOPS, TRIANGLE, two_way(["s"], [(0, 0, "h", "h"), (0, 0, "g", "g")])):
            self.assertIsNone(search(net, 0, lone_mapper(), 600))

    def test_lists_for_tuples(self):
        net = two_way([("s",), "t"], [(0, 1, ("d",), ("e", ())), (1, 1, ("h",), ("h",))])
        told = search(net, 0, lambda seen: lone_mapper()(as_lists(seen)), 16)
        self.assertEqual(told, search(net, 0, lone_mapper(), 16))
        self.assertEqual(told[1], ("least", least_net(net)))


HALF_A = two_way(["a"], [(0, 0, "x", "x")])


if __name__ == "__main__":
    unittest.main()
