"""Points 67 to 71, 74 to 77: rings and rows, their kinds, axes, senses and colours."""

import itertools
import random
import unittest

from samefromhere.errors import BadDoor, BadNumber, BadSenses, BadSigns, BadTimes, NoPlace
from samefromhere.kinds import kinds, kinds_for_ever, rounds_needed
from samefromhere.netlists import kinds_of, rounds_of
from samefromhere.nets import Net
from samefromhere.ringaxes import door_rounds, kind_size, ring_axes, row_turned, rounds_of_row
from samefromhere.ringkinds import alike_around, least_period, reading, ring_rounds
from samefromhere.rings import around, door_ring, door_row, one_way_ring
from samefromhere.ringsenses import barred_by, least_colours, ring_sense
from samefromhere.shapes import is_joined, is_two_way
from tests.helpers import ANY_OBJECTS, as_lists, faults, list_pairs, not_words

SIGN_LISTS = [list(row) for many in range(1, 7) for row in itertools.product("ab", repeat=many)] + [
    [1, "1", (1,)], [(), ((),), (), ((),)], ["a", "b", "c"] * 3, [["a", [0]], ["a", [0]]], list("aabaabb" * 2)]


def patterns(most=5):
    """All patterns of one sign, and of two, of few places, and some longer ones."""
    found = [(["s"] * many, list(senses)) for many in range(1, most + 2)
             for senses in itertools.product((0, 1), repeat=many)]
    found += [(list(signs), list(senses)) for many in range(1, most) for signs in itertools.product("ab", repeat=many)
              for senses in itertools.product((0, 1), repeat=many)]
    pick = random.Random(1)
    for _ in range(40):
        many = pick.randint(1, 4)
        times = pick.randint(1, 3)
        signs = [pick.choice([3, "b", ("c", 0)]) for _ in range(many)]
        senses = [pick.randint(0, 1) for _ in range(many)]
        found.append((signs * times, senses * times))
        turned = [1 - sense for sense in senses[::-1]]
        found.append(((signs + signs[::-1]) * times, (senses + turned) * times))
    return found


PATTERNS = patterns()


def together(lots):
    return {(i, j) for lot in lots for i in lot for j in lot}


def sign_pairs():
    pairs = [(thing, 0) for thing in ANY_OBJECTS if not isinstance(thing, (list, tuple))] + [([], 0), ((), 0)]
    for thing in not_words():
        pairs += [([thing], 0), (["a", thing, thing], 1), (("a", "b", thing), 2)]
    return pairs


class TestRings(unittest.TestCase):
    def test_one_way_ring(self):
        for signs in SIGN_LISTS:
            many = len(signs)
            net = one_way_ring(signs=signs)
            self.assertEqual(net, Net(signs, [(i, (i + 1) % many, "", "") for i in range(many)]))
        self.assertEqual(one_way_ring(["a"]).roads(), [(0, 0, "", "")])

    def test_door_ring(self):
        for signs, senses in PATTERNS:
            net = door_ring(signs=signs, senses=senses)
            many = len(signs)
            self.assertTrue(is_two_way(net) and is_joined(net))
            self.assertEqual(len(net.roads()), 2 * many)
            goes = {(one, out): other for one, other, out, _ in net.roads()}
            for place in range(many):
                self.assertEqual(goes[place, senses[place]], (place + 1) % many)
                self.assertEqual(goes[place, 1 - senses[place]], (place - 1) % many)
            for place in range(many):
                road = (place, (place + 1) % many, senses[place], 1 - senses[(place + 1) % many])
                self.assertIn(road, net.roads())
            self.assertEqual(door_ring(tuple(signs), tuple(senses)), net)

    def test_door_row(self):
        for signs, senses in PATTERNS:
            net = door_row(signs=signs, senses=senses)
            many = len(signs)
            self.assertTrue(is_two_way(net) and is_joined(net))
            last = [road for road in door_ring(signs, senses).roads()]
            road = (many - 1, 0, senses[-1], 1 - senses[0])
            last.remove(road)
            last.remove((0, many - 1, road[3], road[2]))
            self.assertEqual(net, Net(signs, last))
        self.assertEqual(door_row(["a"], [1]), Net(["a"], []))

    def test_around(self):
        for signs in SIGN_LISTS[:20]:
            for times in (1, 2, 5):
                self.assertEqual(around(signs=signs, times=times), list(signs) * times)
        told = around([["a", [0]], 7], 2)
        self.assertEqual(told, [("a", (0,)), 7, ("a", (0,)), 7])
        told.append(None)
        self.assertEqual(len(around([["a", [0]], 7], 2)), 4)
        faults(lambda times: around(["a"], times), BadTimes, "thing",
               [(thing, thing) for thing in ANY_OBJECTS if type(thing) is not int or thing < 1])

    def test_bad_signs(self):
        calls = [one_way_ring, least_period, ring_rounds, lambda signs: around(signs, None),
                 lambda signs: reading(signs, None, None, None, None), lambda signs: alike_around((signs, 0, 0), None),
                 lambda signs: alike_around((["a"], [0], 0), (signs, None, None))]
        calls += [lambda signs, call=call: call(signs, None) for call in BY_SENSES]
        for call in calls:
            faults(call, BadSigns, "index", sign_pairs())

    def test_bad_senses(self):
        calls = [lambda senses, call=call: call(["a", "b", "c"], senses) for call in BY_SENSES]
        calls += [lambda senses: reading(["a", "b", "c"], senses, None, None, None),
                  lambda senses: alike_around((["a", "b", "c"], senses, None), None),
                  lambda senses: alike_around((["a"], [0], 0), (["a", "b", "c"], senses, None))]
        pairs = list_pairs(3, [0, 1, 0], lambda _, thing: type(thing) is int and thing in (0, 1))
        pairs += [([0, 2, None], 1), ([0, True, 5], 1), ((), 0), ([0, 1, 1, 0], 3)]
        for call in calls:
            faults(call, BadSenses, "index", pairs)


BY_SENSES = [door_ring, door_row, ring_axes, door_rounds, kind_size, row_turned, rounds_of_row, ring_sense, barred_by,
             least_colours]


class TestOneSense(unittest.TestCase):
    def test_period(self):
        for signs in SIGN_LISTS:
            period = least_period(signs=signs)
            many = len(signs)
            fits = [p for p in range(1, many + 1) if many % p == 0
                    and all(signs[i] == signs[(i + p) % many] for i in range(many))]
            self.assertEqual(period, fits[0])
            self.assertEqual(together(kinds_for_ever(one_way_ring(signs))),
                             {(i, j) for i in range(many) for j in range(many) if (i - j) % period == 0})

    def test_rounds(self):
        for signs in SIGN_LISTS:
            period = least_period(signs)
            many = len(signs)
            longest = 0
            for i in range(many):
                for j in range(many):
                    if (i - j) % period:
                        alike = 0
                        while signs[(i - alike) % many] == signs[(j - alike) % many]:
                            alike += 1
                        longest = max(longest, alike)
            self.assertEqual(ring_rounds(signs=signs), longest)
            self.assertEqual(longest, rounds_needed(one_way_ring(signs)))
            self.assertLessEqual(longest, max(period - 2, 0))
            for times in (2, 3):
                self.assertEqual(ring_rounds(around(signs, times)), longest)

    def test_limits(self):
        signs = ["a"] * 199 + ["b"]
        self.assertEqual(ring_rounds(signs), 198)
        self.assertEqual(least_period(signs), 200)
        self.assertEqual(least_period(around(list("aab"), 66)), 3)


class TestReadings(unittest.TestCase):
    def test_by_the_net(self):
        for signs, senses in PATTERNS:
            net = door_ring(signs, senses)
            by = {(one, out): (other, into) for one, other, out, into in net.roads()}
            for start in range(len(signs)):
                for door in (0, 1):
                    wanted = [(signs[start], door)]
                    place, out = start, door
                    for _ in range(7):
                        place, into = by[place, out]
                        out = 1 - into
                        wanted.append((signs[place], out))
                    told = reading(signs=signs, senses=senses, start=start, door=door, steps=7)
                    self.assertEqual(told, wanted)
                    self.assertEqual(reading(signs, senses, start, door, 0), wanted[:1])
        self.assertEqual(reading([["a"]], [0], 0, 1, 1), [(("a",), 1)] * 2)

    def test_errors(self):
        faults(lambda start: reading(["a", "b"], [0, 1], start, None, None), NoPlace, "thing",
               [(thing, thing) for thing in ANY_OBJECTS + [2] if type(thing) is not int or not 0 <= thing < 2])
        faults(lambda door: reading(["a", "b"], [0, 1], 1, door, None), BadDoor, "thing",
               [(thing, thing) for thing in ANY_OBJECTS + [1.0, 2] if type(thing) is not int or thing not in (0, 1)])
        faults(lambda steps: reading(["a", "b"], [0, 1], 1, 1, steps), BadNumber, "thing",
               [(thing, thing) for thing in ANY_OBJECTS if type(thing) is not int or thing < 0])
        good = (["a", "b"], [0, 1], 1)
        for place in (2, -1, True, None, "0"):
            for call in (lambda: alike_around((["a", "b"], [0, 1], place), None),
                         lambda: alike_around(good, (["a", "b"], [0, 1], place))):
                with self.assertRaises(NoPlace) as caught:
                    call()
                self.assertIs(caught.exception.thing, place)

    def test_alike_around(self):
        pick = random.Random(2)
        alike = 0
        for _ in range(150):
            one, other = pick.choice(PATTERNS), pick.choice(PATTERNS)
            if pick.random() < 0.5:
                times = pick.randint(1, 3)
                other = (one[0] * times, one[1] * times)
            nets = [door_ring(*one), door_ring(*other)]
            lots = kinds_of(nets, rounds_of(nets))
            for p in range(len(one[0])):
                for q in range(len(other[0])):
                    wanted = any((0, p) in lot and (1, q) in lot for lot in lots)
                    alike += wanted
                    self.assertIs(alike_around(one=one + (p,), other=[*as_lists(other), q]), wanted)
        self.assertGreater(alike, 200)

    def test_limits(self):
        signs = ["a"] * 100 + ["b"] * 100
        self.assertEqual(len(reading(signs, [0, 1] * 100, 7, 1, 500)), 501)
        self.assertFalse(alike_around((signs, [0] * 200, 0), (signs, [0] * 200, 1)))
        self.assertTrue(alike_around((signs, [0] * 200, 5), (signs, [0] * 200, 5)))


class TestAxes(unittest.TestCase):
    def test_axes(self):
        both = {True: 0, False: 0}
        for signs, senses in PATTERNS:
            many = len(signs)
            axes = ring_axes(signs=signs, senses=senses)
            self.assertEqual(axes, [a for a in range(many) if all(
                signs[i] == signs[(a - i) % many] and senses[i] != senses[(a - i) % many] for i in range(many))])
            period = least_period(list(zip(signs, senses)))
            both[bool(axes)] += 1
            net = door_ring(signs, senses)
            lots = kinds_for_ever(net)
            self.assertEqual(together(lots), {(i, j) for i in range(many) for j in range(many)
                                              if (i - j) % period == 0 or (i + j) % many in axes})
            self.assertEqual({len(lot) for lot in lots}, {kind_size(signs=signs, senses=senses)})
            self.assertEqual(kind_size(signs, senses), many // period * (2 if axes else 1))
            self.assertEqual(door_rounds(signs=signs, senses=senses), rounds_needed(net))
            if axes:
                self.assertTrue(many % 2 == 0 and period % 2 == 0 and all(axis % 2 == 1 for axis in axes))
                self.assertEqual({(one - axes[0]) % period for one in axes}, {0})
                self.assertEqual(len(axes), many // period)
            for times in (2, 3):
                self.assertEqual(door_rounds(around(signs, times), senses * times), door_rounds(signs, senses))
                self.assertEqual(len(kinds_for_ever(door_ring(around(signs, times), senses * times))), len(lots))
        self.assertGreater(min(both.values()), 40)

    def test_one_way_round(self):
        for signs, senses in PATTERNS:
            many = len(signs)
            doors = ring_sense(signs=signs, senses=senses)
            barred = barred_by(signs=signs, senses=senses)
            self.assertNotEqual(doors is None, barred is None)
            self.assertEqual(doors is None, bool(ring_axes(signs, senses)))
            pairs = together(kinds_for_ever(door_ring(signs, senses)))
            unlike = sorted((i, j) for i, j in pairs if i < j and senses[i] != senses[j])
            self.assertEqual(barred, unlike[0] if unlike else None)
            if doors is not None:
                self.assertIsInstance(doors, list)
                self.assertTrue(all(doors[i] == doors[j] for i, j in pairs))
                self.assertIn(doors, (senses, [1 - sense for sense in senses]))
                self.assertEqual(ring_sense(tuple(signs), tuple(senses)), doors)
            else:
                self.assertEqual(many % 2, 0)

    def test_told_senses_are_a_list_of_its_own(self):
        senses = [0, 0, 1]
        told = ring_sense(["a"] * 3, senses)
        told.append(None)
        self.assertEqual(senses, [0, 0, 1])

    def test_colours(self):
        for signs, senses in PATTERNS:
            many = len(signs)
            lots = kinds_for_ever(door_ring(signs, senses))
            kind = {place: at for at, lot in enumerate(lots) for place in lot}
            wanted = None
            for words in (1, 2, 3, 4):
                for row in itertools.product(range(words), repeat=len(lots)) if len(lots) <= 6 else []:
                    if all(row[kind[i]] != row[kind[(i + 1) % many]] for i in range(many)):
                        wanted = words
                        break
                if wanted:
                    break
            if len(lots) <= 6:
                self.assertEqual(least_colours(signs=signs, senses=senses), wanted)

    def test_limits(self):
        signs = ["s"] * 200
        senses = [0] * 100 + [1] * 100
        self.assertEqual(ring_axes(signs, senses), [199])
        self.assertEqual(barred_by(signs, senses), (0, 199))
        self.assertEqual(kind_size(signs, senses), 2)
        self.assertGreater(door_rounds(signs, senses), 40)
        self.assertEqual(least_colours(signs, [0] * 199 + [1]), 2)
        self.assertEqual(rounds_of_row(signs, senses), rounds_needed(door_row(signs, senses)))


class TestRows(unittest.TestCase):
    def test_turned(self):
        both = {True: 0, False: 0}
        for signs, senses in PATTERNS:
            many = len(signs)
            turned = row_turned(signs=signs, senses=senses)
            back = [(sign, 1 - sense) for sign, sense in zip(signs, senses)][::-1]
            self.assertIs(turned, back == list(zip(signs, senses)))
            both[turned] += 1
            net = door_row(signs, senses)
            wanted = {(i, i) for i in range(many)}
            if turned:
                wanted |= {(i, many - 1 - i) for i in range(many)}
            self.assertEqual(together(kinds_for_ever(net)), wanted)
            rounds = rounds_of_row(signs=signs, senses=senses)
            self.assertEqual(kinds(net, rounds), kinds_for_ever(net))
            self.assertTrue(rounds == 0 or kinds(net, rounds - 1) != kinds_for_ever(net))
        self.assertFalse(row_turned(["a"], [0]))
        self.assertGreater(min(both.values()), 10)


if __name__ == "__main__":
    unittest.main()
