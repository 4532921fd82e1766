"""Points 41, 42: written wishes, and when they can be done."""

import itertools
import unittest

from samefromhere.errors import BadNets, BadWritten
from samefromhere.kinds import kinds_for_ever
from samefromhere.netlists import kinds_of, rounds_of
from samefromhere.nets import Net
from samefromhere.wishes import choices, first_choice
from samefromhere.written import written
from tests.helpers import (ANY_OBJECTS, LONE, PATH, R, S, TRIANGLE, TWO_WAYS, as_lists, not_words, random_net,
                           random_two_way, ring)


def lots(many=40):
    nets = [random_net(seed, most=4, signs=2, road_words=1, roads=5) for seed in range(many)]
    return [[net] for net in nets] + [[one, other] for one, other in zip(nets, nets[1:])] + [
        [R, S], [R], [S], [PATH], [TRIANGLE], [LONE], [ring("ab"), R], [ring("aa"), ring("a")]]


def slow_right(nets, word, index, given):
    """Point 41 word by word."""
    net = nets[index]
    name = word if isinstance(word, str) else word[0]
    if name == "head":
        return list(given).count(1) == 1
    if name == "names":
        return len(set(given)) == len(given)
    if name == "colours":
        return all(given[road[0]] != given[road[1]] for road in net.roads())
    if name == "steps":
        return all(given[place] == steps(net, word[1], place) for place in range(len(net)))
    if name == "true":
        return all(answer == word[1][index] for answer in given)
    return is_tree(net, given)


def steps(net, sign, place):
    lot = {place}
    for many in range(len(net)):
        if any(net.signs()[at] == sign for at in lot):
            return many
        lot = {road[0] for road in net.roads() if road[1] in lot}
    return -1


def is_tree(net, given):
    heads = [place for place, answer in enumerate(given) if answer == ()]
    if len(heads) != 1:
        return False
    for place in range(len(net)):
        at = place
        for _ in range(len(net)):
            if at != heads[0]:
                roads = [road for road in net.roads() if road[0] == at and (road[2],) == given[at]]
                if len(roads) != 1:
                    return False
                at = roads[0][1]
        if at != heads[0]:
            return False
    return True


class TestWritten(unittest.TestCase):
    def test_answers(self):
        nets = [Net(["a", "b", "a"], [(0, 1, "x", 0), (0, 2, ("y",), 0), (1, 2, -1, 0), (1, 0, "x", 1)]), S]
        for word, answers in (("head", [0, 1]), ("names", [0, 1, 2, 3, 4, 5]), (("colours", 3), [0, 1, 2]),
                              (["colours", 1], [0]), (("steps", "a"), [-1, 0, 1, 2]), (("steps", [1]), [-1, 0, 1, 2]),
                              (("true", ["b", 7]), [7, "b"]), (("true", [["t"], ["t"]]), [("t",)]),
                              ("tree", [(), (-1,), ("",), ("x",), (("y",),)])):
            told, right = written(nets=nets, word=word)
            self.assertEqual(told, answers)
            self.assertIsInstance(told, list)
            self.assertIsInstance(written(nets, word), tuple)
            told.clear()
            self.assertEqual(written(nets, word)[0], answers)
            self.assertTrue(callable(right))
        self.assertEqual(written([LONE, ring("aaaa")], ("steps", "z"))[0], [-1, 0, 1, 2, 3])
        self.assertEqual(written([LONE], "tree")[0], [()])

    def test_right(self):
        for nets in lots(25):
            words = ["head", "names", ("colours", 2), ("steps", nets[0].signs()[0]), ("steps", "none"), "tree",
                     ("true", [["f"], 2][:len(nets)] if len(nets) > 1 else [["f"]])]
            for word in words:
                answers, right = written(nets, word)
                for index, net in enumerate(nets):
                    for given in itertools.islice(itertools.product(answers, repeat=len(net)), 300):
                        expected = slow_right(nets, word if isinstance(word, str) or word[0] != "true" else
                                              ("true", [("f",), 2]), index, given)
                        self.assertIs(right(index, given), expected, (word, given))
                        self.assertIs(right(index, as_lists(given)), expected)

    def test_examples(self):
        head = written([R], "head")[1]
        self.assertTrue(head(0, (0, 1, 0, 0)))
        self.assertFalse(head(0, (0, 0, 0, 0)))
        self.assertFalse(head(0, (1, 1, 0, 0)))
        loop = Net(["a", "a"], [(0, 0, "", ""), (0, 1, "", "")])
        self.assertFalse(written([loop], ("colours", 2))[1](0, (0, 1)))
        self.assertTrue(written([S], ("steps", "x"))[1](0, (0, 1, 1)))
        self.assertFalse(written([S], ("steps", "y"))[1](0, (0, 0, 0)))
        self.assertTrue(written([S], ("steps", "y"))[1](0, (-1, 0, 0)))
        tree = written([PATH], "tree")[1]
        self.assertFalse(tree(0, (("r",), ("x",), ())))
        self.assertTrue(tree(0, (("r",), (), ("l",))))
        self.assertTrue(tree(0, (("r",), ("r",), ())))
        self.assertFalse(tree(0, (("r",), ("l",), ())))
        self.assertFalse(tree(0, ((), ("r",), ())))
        self.assertFalse(tree(0, ((), ("l",), ("r",))))
        fork = Net(["a"] * 3, [(0, 1, "x", 0), (0, 2, "x", 0), (1, 2, "y", 0), (2, 1, "y", 0)])
        self.assertFalse(written([fork], "tree")[1](0, (("x",), (), ("y",))))

    def test_bad_written(self):
        bad = not_words() + ["", "heads", "colours", ("head",), ("colours",), ("colours", 0), ("colours", True),
                             ("colours", "2"), ("colours", 2, 2), ("steps",), ("steps", None), ("steps", "a", "b"),
                             ("true",), ("true", [1]), ("true", [1, 2, 3]), ("true", "ab"), ("true", [1, None]), ("false", [1, 2]),
                             ("names", [1, 2]), ("", ["a", "b"]),
                             ("names", 2), 0, (0, 1), ("tree", "tree"), (("head",), 1), ("true", 2), ()]
        for word in bad:
            with self.assertRaises(BadWritten) as caught:
                written([R, S], word)
            self.assertIs(caught.exception.thing, word)
        for thing in ANY_OBJECTS:
            if not isinstance(thing, Net):
                with self.assertRaises(BadNets) as caught:
                    written([R, thing], None)
                self.assertEqual(caught.exception.index, 1)
        with self.assertRaises(BadNets) as caught:
            written([], "head")
        self.assertEqual(caught.exception.index, 0)

    def test_what_was_passed_is_changed(self):
        nets, facts = [R, S], [["f"], 2]
        answers, right = written(nets, ("true", facts))
        facts[0].append(1)
        facts.clear()
        nets.clear()
        self.assertTrue(right(0, (("f",),) * 4))
        nets = [R, S]
        answers, right = written(nets, ("colours", 2))
        nets.clear()
        self.assertTrue(right(0, (0, 1, 0, 1)))


class TestWhen(unittest.TestCase):
    """Point 42."""

    def rows(self, nets):
        """For each net the kinds of its places, for ever."""
        kinds = kinds_of(nets, rounds_of(nets))
        return kinds, [[at for place in range(len(net)) for at, lot in enumerate(kinds) if (index, place) in lot]
                       for index, net in enumerate(nets)]

    def test_each_word(self):
        met = set()
        for nets in lots():
            kinds, rows = self.rows(nets)
            joined = [(row[road[0]], row[road[1]]) for net, row in zip(nets, rows) for road in net.roads()]
            cans = {
                "head": any(all(len([kind for kind in row if kind in lot]) == 1 for row in rows)
                            for size in range(len(kinds) + 1) for lot in itertools.combinations(range(len(kinds)), size)),
                "names": all(len(set(row)) == len(row) for row in rows),
                ("colours", 2): any(all(colours[one] != colours[other] for one, other in joined)
                                    for colours in itertools.product(range(2), repeat=len(kinds))),
                ("steps", nets[0].signs()[0]): True,
                ("true", tuple(range(len(nets)))): len(nets) == 1 or not set(rows[0]) & set(rows[1]),
                ("true", (5,) * len(nets)): True,
            }
            for word, can in cans.items():
                if word == "names" and sum(map(len, nets)) ** len(kinds) > 20000:
                    continue
                self.assertEqual(first_choice(nets, *written(nets, word), None) is not None, can, word)
                met.add((word if isinstance(word, str) else word[0], can))
        self.assertEqual(len(met), 9)

    def test_two_way_nets(self):
        met = set()
        for net in TWO_WAYS + [random_two_way(seed, 4) for seed in range(40)]:
            kinds = kinds_for_ever(net)
            self.assertEqual(len({len(lot) for lot in kinds}), 1)
            unlike = len(kinds) == len(net)
            met.add(unlike)
            for word in ("head", "names", "tree"):
                self.assertEqual(first_choice([net], *written([net], word), None) is not None, unlike)
        self.assertEqual(met, {True, False})

    def test_more_rounds_take_none_away(self):
        row = Net(["a"] * 5, [(i, i + 1, "", "") for i in range(4)])
        answers, right = written([row], "head")
        self.assertEqual([len(choices([row], answers, right, rounds)) for rounds in range(5)], [0, 1, 2, 3, 5])
