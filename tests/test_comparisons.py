"""Points 50 to 54, 56: forms and weights, bounds of shares, doors known, a known number."""

import itertools
import math
import random
import unittest

from samefromhere.comparisons import are_weights, least_weights, row_below, share_bound
from samefromhere.countrows import count_rows, is_count_row
from samefromhere.doors import marked_rows, share_row, ways_to
from samefromhere.errors import BadBase, BadDoors, BadForm, BadNumber, NoPlace
from samefromhere.liftcounts import count_picks
from samefromhere.lifts import lift
from samefromhere.nets import Net, roads_out
from samefromhere.shapes import is_strong
from tests.helpers import ANY_OBJECTS, bases, faults, list_pairs, ring
from tests.test_countrows import B, NO_BASES, all_picks

BASES = bases(24)
FOUR = Net(list("abcde"), [(0, 1, 0, 0), (0, 1, 0, 0), (1, 2, 0, 0), (1, 2, 0, 0), (2, 3, 0, 0), (2, 3, 0, 0),
                           (3, 4, 0, 0), (3, 4, 0, 0), (4, 0, 0, 0)])


def value(form, row):
    return sum(number * many for number, many in zip(form, row))


def forms(base, many=12):
    pick = random.Random(len(base))
    found = [[0] * len(base), [1] * len(base), [-1] * len(base), [0] * (len(base) - 1) + [-1]]
    return found + [[pick.randint(-3, 3) for _ in range(len(base))] for _ in range(many)]


def slow_are_weights(base, form, weights):
    return all(weights[w] >= sum(weights[one] for one, other, _, _ in base.roads() if other == w) - form[w]
               for w in range(len(base)))


def is_int(thing):
    return isinstance(thing, int) and not isinstance(thing, bool)


class TestWeights(unittest.TestCase):
    def test_just_one(self):
        told = {True: 0, False: 0}
        for base in BASES:
            rows = count_rows(base, 9)
            for form in forms(base):
                weights = least_weights(base=base, form=form)
                below = row_below(base=base, form=form)
                self.assertNotEqual(weights is None, below is None)
                told[below is None] += 1
                if below is None:
                    self.assertIsInstance(weights, tuple)
                    self.assertTrue(slow_are_weights(base, form, weights))
                    self.assertTrue(all(value(form, row) >= 0 for row in rows))
                else:
                    self.assertIsInstance(below, tuple)
                    self.assertTrue(is_count_row(base, below))
                    self.assertLess(value(form, below), 0)
                if any(value(form, row) < 0 for row in rows):
                    self.assertIsNotNone(below)
        self.assertGreater(min(told.values()), 60)

    def test_least_at_each_place(self):
        for base in BASES:
            if len(base) > 3:
                continue
            for form in forms(base):
                weights = least_weights(base, form)
                if weights is None or max(weights) > 8:
                    continue
                for other in itertools.product(range(max(weights) + 1), repeat=len(base)):
                    good = slow_are_weights(base, form, other)
                    self.assertEqual(are_weights(base=base, form=form, thing=list(other)), good)
                    if good:
                        self.assertTrue(all(least <= more for least, more in zip(weights, other)))

    def test_the_value_by_slots(self):
        for base in BASES:
            for form in forms(base, 4):
                weights = least_weights(base, form)
                for row in count_rows(base, 7) if weights is not None else []:
                    slots = [sum(row[other] for _, other, _, _ in roads_out(base, v)) for v in range(len(base))]
                    self.assertGreaterEqual(value(form, row), sum(weight * (slot - number) for weight, slot, number
                                                                  in zip(weights, slots, row)))

    def test_rings(self):
        base = ring("abc")
        self.assertEqual(least_weights(base, [2, -1, -1]), (0, 1, 2))
        self.assertEqual(least_weights(base, [-1, -1, 2]), (1, 2, 0))
        self.assertIsNone(least_weights(base, [2, -2, -1]))
        self.assertEqual(value([12, -12, -1], row_below(base, [12, -12, -1])), -row_below(base, [12, -12, -1])[0])
        self.assertEqual(least_weights(ring("a"), [0]), (0,))
        self.assertIsNone(least_weights(ring("a"), [-1]))

    def test_where_some_places_count_for_nothing(self):
        base = Net(["a", "b"], [(0, 0, 0, 0), (0, 0, 1, 1), (0, 1, 0, 0), (1, 0, 0, 0)])
        for form in ([-1, 5], [-1, 12], [-3, 12], [-5, 12], [-12, 12], [-2, 7], [-1, 0], [-1, -1], [-1, 1]):
            self.assertIsNone(least_weights(base, form))
            self.assertTrue(is_count_row(base, row_below(base, form)))
            self.assertLess(value(form, row_below(base, form)), 0)
        for form in ([0, 12], [1, -1], [0, 0]):
            self.assertIsNone(row_below(base, form))

    def test_free_and_equal(self):
        for base in BASES[:8]:
            for form in forms(base, 4):
                self.assertEqual(row_below(base, form), row_below(base, tuple(form)))
                self.assertEqual(least_weights(base, form), least_weights(base, tuple(form)))

    def test_any_object_for_weights(self):
        for thing in ANY_OBJECTS + [(0,), (0, 0, 0), (True, 0), (-1, 0), (0, "0")]:
            self.assertIs(are_weights(B, (1, 1), thing), thing == (0, 0) and type(thing[0]) is int)
        self.assertIs(are_weights(B, (1, 1), [0, 0]), True)
        self.assertIs(are_weights(B, (1, -1), [0, 0]), False)
        self.assertIs(are_weights(B, (-1, 2), (1, 0)), True)
        self.assertIs(are_weights(B, (-1, 2), (1, 1)), False)

    def test_limits(self):
        for form in ([12, -12, 12, -12, 12], [-12, 12, -12, 12, -12], [12, 12, 12, 12, -1], [-12] * 5):
            weights = least_weights(FOUR, form)
            below = row_below(FOUR, form)
            self.assertNotEqual(weights is None, below is None)
            self.assertTrue(below is None or is_count_row(FOUR, below) and value(form, below) < 0)


class TestForms(unittest.TestCase):
    def test_bad_forms(self):
        base = ring("abc")
        pairs = list_pairs(3, [1, 0, 2], lambda _, thing: is_int(thing), True) + [([], 0), ([0, 0], 2), ([0] * 5, 3)]
        for call in (lambda form: least_weights(base, form), lambda form: are_weights(base, form, None),
                     lambda form: row_below(base, form), lambda form: share_bound(base, form, None)):
            faults(call, BadForm, "index", pairs)
        pairs = list_pairs(3, [1, 0, 2], lambda _, thing: is_int(thing) and thing >= 0, True)
        pairs += [([0, 0, 0], 0), ((0, 0, 0), 0), ([1, -1, None], 1), ([], 0), ([1, 1], 2), ([0, 1, 1, 1], 3)]
        faults(lambda form: share_bound(base, [1, 0, -5], form), BadForm, "index", pairs)

    def test_bad_base(self):
        calls = [lambda base: least_weights(base, None), lambda base: are_weights(base, None, None),
                 lambda base: row_below(base, None), lambda base: share_bound(base, None, None),
                 lambda base: share_row(base, None), lambda base: ways_to(base, None),
                 lambda base: marked_rows(base, None, None)]
        for call in calls:
            faults(call, BadBase, "thing", [(thing, thing) for thing in NO_BASES])


class TestShareBound(unittest.TestCase):
    def test_least_fraction(self):
        found = {True: 0, False: 0}
        for base in BASES:
            rows = count_rows(base, 10)
            pick = random.Random(7)
            for _ in range(15):
                one = [pick.randint(-3, 4) for _ in range(len(base))]
                other = [pick.choice([0, 0, 1, 2]) for _ in range(len(base))]
                if not any(other):
                    other[-1] = 1
                bound = share_bound(base=base, one=one, other=other)
                self.assertEqual(bound, share_bound(base, tuple(one), tuple(other)))
                found[bound is None] += 1
                if bound is None:
                    # However large a fraction is, at some count row it is passed.
                    for times in (1, 10, 1000):
                        form = [times * more - less for more, less in zip(other, one)]
                        self.assertLess(value(form, row_below(base, form)), 0)
                    continue
                top, bottom = bound
                self.assertGreater(bottom, 0)
                self.assertEqual(math.gcd(top, bottom), 1)
                self.assertTrue(all(value(one, row) * bottom <= value(other, row) * top for row in rows))
                self.assertIsNotNone(least_weights(base, [top * more - bottom * less for more, less in zip(other, one)]))
                fine = 1000
                form = [(top * fine - 1) * more - bottom * fine * less for more, less in zip(other, one)]
                self.assertLess(value(form, row_below(base, form)), 0)
                self.assertTrue(is_count_row(base, row_below(base, form)))
        self.assertGreater(min(found.values()), 10)

    def test_edges(self):
        base = ring("ab")
        self.assertEqual(share_bound(base, [0, 0], [1, 0]), (0, 1))
        self.assertEqual(share_bound(base, [-4, 0], [0, 6]), (-2, 3))
        self.assertEqual(share_bound(B, [1, 0], [0, 1]), (2, 1))
        loop = Net(["a", "b"], [(0, 1, 0, 0), (1, 0, 0, 0), (1, 1, 0, 0), (1, 1, 1, 1)])
        self.assertIsNone(share_bound(loop, [0, 1], [1, 0]))
        self.assertEqual(share_bound(loop, [1, 0], [0, 1]), (1, 1))

    def test_limits(self):
        self.assertEqual(share_bound(FOUR, [12, 0, 0, 0, 0], [0, 0, 0, 0, 9]), (64, 3))
        self.assertEqual(share_bound(FOUR, [0, 0, 0, 0, 12], [9, 0, 0, 0, 0]), (4, 3))


class TestShareRow(unittest.TestCase):
    def test_all_count_rows(self):
        found = {True: 0, False: 0}
        for base in BASES:
            rows = count_rows(base, 11)
            for doors in itertools.product(range(1, 4), repeat=len(base)):
                share = share_row(base=base, doors=doors)
                good = [row for row in rows if all(row[v] * doors[v] == sum(row[other] for _, other, _, _
                                                                            in roads_out(base, v))
                                                   for v in range(len(base)))]
                found[share is None] += 1
                if share is None:
                    self.assertEqual(good, [])
                else:
                    self.assertIsInstance(share, tuple)
                    self.assertTrue(is_count_row(base, share))
                    self.assertEqual(math.gcd(*share), 1)
                    self.assertEqual(good, [tuple(times * number for number in share)
                                            for times in range(1, 11 // sum(share) + 1)])
        self.assertGreater(found[False], 20)
        self.assertGreater(found[True], 20)

    def test_nets_with_these_doors(self):
        tried = 0
        for base in BASES:
            lots = {}
            for row in count_rows(base, 4):
                for picks in all_picks(base, row) if count_picks(base, row) <= 2000 else []:
                    net = lift(base, row, picks)
                    image = [place for place, many in enumerate(row) for _ in range(many)]
                    leave = [len(roads_out(net, place)) for place in range(len(net))]
                    doors = [{leave[place] for place in range(len(net)) if image[place] == v} for v in range(len(base))]
                    if is_strong(net) and all(len(lot) == 1 for lot in doors):
                        lots.setdefault(tuple(min(lot) for lot in doors), set()).add(row)
            for doors, rows in lots.items():
                share = share_row(base, doors)
                for row in rows:
                    self.assertEqual(row, tuple(number * row[0] // share[0] for number in share))
                    tried += 1
        self.assertGreater(tried, 25)

    def test_bad_doors(self):
        pairs = list_pairs(3, [1, 2, 1], lambda _, thing: is_int(thing) and thing >= 1, True)
        pairs += [([1, 0, None], 1), ([], 0), ([1, 1], 2), ([1] * 4, 3)]
        faults(lambda doors: share_row(ring("abc"), doors), BadDoors, "index", pairs)

    def test_limits(self):
        self.assertEqual(share_row(FOUR, [2, 2, 2, 2, 1]), (1, 1, 1, 1, 1))
        self.assertEqual(share_row(FOUR, [1, 2, 2, 2, 2]), (2, 1, 1, 1, 1))
        self.assertEqual(share_row(FOUR, [1, 1, 1, 2, 8]), (8, 4, 2, 1, 1))
        self.assertIsNone(share_row(FOUR, [9, 9, 9, 9, 9]))
        self.assertEqual(share_row(Net(["a"], [(0, 0, 0, 0)] * 9), [9]), (1,))
        self.assertIsNone(share_row(Net(["a"], [(0, 0, 0, 0)] * 9), [8]))
        self.assertIsNone(share_row(Net(["a"], [(0, 0, 0, 0)] * 8), [9]))


class TestKnownNumber(unittest.TestCase):
    def slow_ways(self, base, place):
        """Counts ways by length: a way of as many roads as there are places goes round, so there is no end."""
        many = len(base)
        ends = [1 if at == place else 0 for at in range(many)]
        total = list(ends)
        for length in range(1, 2 * many + 1):
            ends = [0 if at == place else sum(ends[other] for _, other, _, _ in roads_out(base, at))
                    for at in range(many)]
            total = [None if old is None or length >= many and new else old + new for old, new in zip(total, ends)]
        return tuple(total)

    def test_ways(self):
        for base in BASES:
            for place in range(len(base)):
                ways = ways_to(base=base, place=place)
                self.assertIsInstance(ways, tuple)
                self.assertEqual(ways, self.slow_ways(base, place))
        self.assertEqual(ways_to(FOUR, 4), (16, 8, 4, 2, 1))
        self.assertEqual(ways_to(ring("a"), 0), (1,))

    def test_marked_rows(self):
        ended = 0
        for base in BASES:
            for place in range(len(base)):
                ways = ways_to(base, place)
                for many in (1, 2):
                    rows = marked_rows(base=base, place=place, many=many)
                    if None in ways:
                        self.assertIsNone(rows)
                        # As many as one likes: there are more and more of them.
                        sums = [len([row for row in count_rows(base, most) if row[place] == many])
                                for most in (6, 8, 10, 12)]
                        self.assertEqual(sums, sorted(set(sums)) if len(base) <= 3 and many == 1 else sorted(sums))
                        continue
                    most = many * sum(ways)
                    if most > 14:
                        continue
                    self.assertEqual(rows, [row for row in count_rows(base, most) if row[place] == many])
                    self.assertEqual([max(row[at] for row in rows) for at in range(len(base))],
                                     [many * way for way in ways])
                    self.assertIn(tuple(many * way for way in ways), rows)
                    ended += 1
        self.assertGreater(ended, 10)

    def test_errors(self):
        for call in (lambda place: ways_to(B, place), lambda place: marked_rows(B, place, None)):
            faults(call, NoPlace, "thing", [(thing, thing) for thing in ANY_OBJECTS + [2] if thing is True
                                            or type(thing) is not int or not 0 <= thing < 2])
        faults(lambda many: marked_rows(B, 0, many), BadNumber, "thing",
               [(thing, thing) for thing in ANY_OBJECTS if type(thing) is not int or thing < 1])

    def test_limits(self):
        rows = marked_rows(FOUR, 4, 4)
        self.assertEqual(rows[-1], (64, 32, 16, 8, 4))
        self.assertEqual(len(rows), len(set(rows)))
        self.assertTrue(all(is_count_row(FOUR, row) for row in rows[::500]))


if __name__ == "__main__":
    unittest.main()
