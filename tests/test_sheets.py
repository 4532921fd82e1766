"""Point 18: sheets."""

import itertools
import random
import unittest

from samefromhere.alike import alike_for
from samefromhere.errors import BadSheet, NoPlace
from samefromhere.nets import Net
from samefromhere.sheets import holds, is_sheet, parting_sheet, sheet_rounds
from tests.helpers import ANY_OBJECTS, LONE, R, S, as_lists, random_net, ring, samples


def slow_holds(net, place, sheet, at):
    row = sheet[at]
    if row[0] == "sign":
        return net.signs()[place] == row[1]
    if row[0] == "in":
        come = [one for one, other, out, into in net.roads() if other == place and (into, out) == (row[1], row[2])]
        return sum(slow_holds(net, one, sheet, row[4]) for one in come) >= row[3]
    if row[0] == "not":
        return not slow_holds(net, place, sheet, row[1])
    return all(slow_holds(net, place, sheet, earlier) for earlier in row[1:])


def slow_rounds(sheet, at):
    row = sheet[at]
    if row[0] == "sign":
        return 0
    if row[0] == "in":
        return 1 + slow_rounds(sheet, row[4])
    return max([slow_rounds(sheet, earlier) for earlier in row[1:]], default=0)


def random_sheet(seed, net):
    pick = random.Random(seed)
    marks = [mark for road in net.roads() for mark in road[2:]] or [""]
    sheet = [("sign", pick.choice(net.signs()))]
    for at in range(1, pick.randint(2, 8)):
        kind = pick.choice(["sign", "in", "in", "not", "all"])
        if kind == "sign":
            sheet.append(("sign", pick.choice(net.signs())))
        elif kind == "in":
            road = pick.choice(net.roads()) if net.roads() else (0, 0, "", "")
            marks = (road[3], road[2])
            sheet.append(("in", *marks, pick.randint(1, 2), pick.randrange(at)))
        elif kind == "not":
            sheet.append(("not", pick.randrange(at)))
        else:
            sheet.append(("all", *[pick.randrange(at) for _ in range(pick.randint(0, 3))]))
    return sheet


class TestSheets(unittest.TestCase):
    def test_what_holds(self):
        for seed, net in enumerate(samples(40)):
            for more in range(5):
                sheet = random_sheet(seed * 10 + more, net)
                self.assertIs(is_sheet(thing=sheet), True)
                self.assertTrue(is_sheet(as_lists(sheet)))
                rounds = slow_rounds(sheet, -1)
                self.assertEqual(sheet_rounds(sheet=sheet), rounds)
                told = [holds(net=net, place=place, sheet=as_lists(sheet)) for place in range(len(net))]
                self.assertEqual(told, [slow_holds(net, place, sheet, -1) for place in range(len(net))])
                for one, other in itertools.product(range(len(net)), repeat=2):
                    alike = alike_for(net, one, net, other)
                    if alike is None or alike >= rounds:
                        self.assertEqual(told[one], told[other])

    def test_each_sort_of_row(self):
        net = Net(["a", "b", "b"], [(0, 1, "x", "y"), (0, 1, "x", "y"), (2, 1, "x", "y"), (1, 1, "y", "x")])
        sign = [("sign", "a")]
        self.assertEqual([holds(net, place, sign) for place in range(3)], [True, False, False])
        for many, told in ((1, True), (2, True), (3, False)):
            self.assertIs(holds(net, 1, sign + [("in", "y", "x", many, 0)]), told)
        self.assertIs(holds(net, 1, [("all",), ("in", "y", "x", 3, 0)]), True)
        self.assertIs(holds(net, 1, sign + [("in", "x", "y", 1, 0)]), False)
        self.assertIs(holds(net, 1, sign + [("not", 0)]), True)
        self.assertIs(holds(net, 1, sign + [("not", 0), ("all", 0, 1)]), False)
        self.assertIs(holds(net, 0, sign + [("all", 0, 0)]), True)
        self.assertIs(holds(Net([("a",)], []), 0, [["sign", ["a"]]]), True)
        self.assertIs(holds(Net(["a"], []), 0, [["sign", ["a"]]]), False)

    def test_rounds(self):
        ins = [("all",)] + [("in", "", "", 1, i) for i in range(4)]
        for sheet, rounds in (([("sign", "a")], 0), ([("all",)], 0), (ins, 4), (ins + [("not", 3)], 3),
                              (ins + [("all", 2, 4, 0)], 4), (ins + [("sign", 1)], 0), (ins + [("all",)], 0)):
            self.assertEqual(sheet_rounds(sheet), rounds)

    def test_any_object(self):
        good = [("sign", ["a"]), ("all",)]
        bad = [("sign",), ("sign", None), ("sign", "a", "b"), ("sign", [True]), ("in", "", "", 1), ("in", "", "", 0, 0),
               ("in", "", "", True, 0), ("in", None, "", 1, 0), ("in", "", {}, 1, 0), ("in", "", "", 1, 2),
               ("in", "", "", 1, -1), ("in", "", "", 1, False), ("in", "", "", "1", 0), ("not",), ("not", 2),
               ("not", 0, 1), ("not", True), ("not", "0"), ("all", 2), ("all", 0, -1), ("all", True), ("all", [0]),
               ("any", 0), (), [], "all", ("", ), (0, 0), ((), 0), ("a",)]
        bad += [thing for thing in ANY_OBJECTS]
        for thing in bad:
            for ahead in (0, 1, 2):
                sheet = good[:ahead] + [thing, None]
                self.assertIs(is_sheet(sheet), False, sheet)
                for function in (lambda: sheet_rounds(sheet), lambda: holds(R, 0, sheet)):
                    with self.assertRaises(BadSheet) as caught:
                        function()
                    self.assertEqual(caught.exception.index, ahead, sheet)
        for thing in ANY_OBJECTS:
            if not isinstance(thing, (list, tuple)) or len(thing) == 0:
                self.assertIs(is_sheet(thing), False)
                with self.assertRaises(BadSheet) as caught:
                    sheet_rounds(thing)
                self.assertEqual(caught.exception.index, 0)
        self.assertTrue(is_sheet(tuple(good)))

    def test_order_of_errors(self):
        with self.assertRaises(NoPlace) as caught:
            holds(R, 4, None)
        self.assertEqual(caught.exception.thing, 4)
        with self.assertRaises(BadSheet) as caught:
            holds(R, 3, [("all",), ("not", 1)])
        self.assertEqual(caught.exception.index, 1)


class TestParting(unittest.TestCase):
    def check(self, one, place, other, far):
        alike = alike_for(one, place, other, far)
        sheet = parting_sheet(one=one, place=place, other=other, far=far)
        if alike is None:
            self.assertIsNone(sheet)
            return
        self.assertTrue(is_sheet(sheet))
        self.assertIsInstance(sheet, list)
        self.assertTrue(all(isinstance(row, tuple) for row in sheet))
        self.assertEqual(sheet_rounds(sheet), alike + 1)
        self.assertIs(holds(one, place, sheet), True)
        self.assertIs(holds(other, far, sheet), False)
        self.assertEqual(parting_sheet(one, place, other, far), sheet)

    def test_holds_at_the_one_alone(self):
        nets = [random_net(seed, most=5, signs=1, road_words=2, roads=8) for seed in range(40)]
        nets += [S, R, ring("abb"), ring("abbb"), LONE, Net(["a"] * 8, [(i, i + 1, "", "") for i in range(7)])]
        for one, other in list(zip(nets, nets[1:])) + [(net, net) for net in nets]:
            for place, far in itertools.product(range(len(one)), range(len(other))):
                self.check(one, place, other, far)

    def test_limits(self):
        row = Net(["a"] * 8, [(i, i + 1, "", "") for i in range(7)] + [(0, 0, "", "")] * 20)
        far = Net(["a"] * 8, [(i, i + 1, "", "") for i in range(7)] + [(0, 0, "", "")] * 20 + [(7, 7, "", "")])
        for place in range(8):
            self.check(row, place, far, 7)
            self.check(row, place, row, 7)
        self.assertEqual(sheet_rounds(parting_sheet(row, 6, row, 7)), alike_for(row, 6, row, 7) + 1)

    def test_no_place(self):
        with self.assertRaises(NoPlace) as caught:
            parting_sheet(R, None, S, 9)
        self.assertIsNone(caught.exception.thing)
        with self.assertRaises(NoPlace) as caught:
            parting_sheet(R, 3, S, 3)
        self.assertEqual(caught.exception.thing, 3)

    def test_two_hundred_rows(self):
        sheet = [("all",)] + [("in", "", "", 1, i) for i in range(199)]
        self.assertEqual(sheet_rounds(sheet), 199)
        self.assertTrue(holds(R, 0, sheet))
