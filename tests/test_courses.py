"""Points 94, 95: courses of nets, and what keeps places alike or parts them whatever comes."""

import itertools
import random
import unittest

from samefromhere.courses import (course_kinds, finest_course, is_keeping, keeping, must_part, orders_parting,
                                  parting_course)
from samefromhere.errors import BadCourse, BadNetRow, NoPlace
from samefromhere.kinds import kinds, kinds_for_ever
from samefromhere.nets import Net
from samefromhere.rowkinds import row_kinds, row_kinds_for_ever
from tests.helpers import ANY_OBJECTS, LONE, R, S, faults, ring
from tests.test_netrows import PATHS, random_row, row_pairs

EMPTY = Net(["a"] * 3, [])
SAMPLES = [PATHS, PATHS * 2, [R], [S], [LONE], [LONE] * 3, [EMPTY], [EMPTY, PATHS[0]], [ring("aaaa")],
           [ring("aabab"), Net(list("aabab"), [(0, 1, "", "")])]]
SAMPLES += [random_row(seed, signs=1, marks=1, roads=3, most=5) for seed in range(28)]
SAMPLES += [random_row(seed, signs=2, marks=2, roads=4, most=5) for seed in range(50, 64)]


def slow_labels(row, course):
    """Labels told straight from row views' parts: own label and what comes, as texts."""
    labels = [repr(sign) for sign in row[0].signs()]
    for index in course:
        net = row[index]
        grown = [repr((labels[at], sorted(repr((into, out, labels[one])) for one, other, out, into in net.roads()
                                          if other == at))) for at in range(len(net))]
        names = {label: str(number) for number, label in enumerate(sorted(set(grown)))}
        labels = [names[label] for label in grown]
    return labels


def lots(labels):
    return [[at for at, label in enumerate(labels) if label == first] for spot, first in enumerate(labels)
            if first not in labels[:spot]]


def all_courses(row, length):
    return [list(course) for course in itertools.product(range(len(row)), repeat=length)]


def few_courses(row):
    """All courses, level by level, as long as there are few."""
    length = 0
    while len(row) ** length <= 70:
        yield length, all_courses(row, length)
        length += 1
        if length > 6:
            return


class TestKinds(unittest.TestCase):
    def test_courses(self):
        for row in SAMPLES:
            for _, courses in few_courses(row):
                for course in courses:
                    self.assertEqual(course_kinds(row=row, course=course), lots(slow_labels(row, course)))
                    self.assertEqual(course_kinds(tuple(row), tuple(course)), lots(slow_labels(row, course)))

    def test_in_their_order_a_course_is_a_row(self):
        for row in SAMPLES:
            for rounds in range(7):
                course = [done % len(row) for done in range(rounds)]
                self.assertEqual(course_kinds(row, course), row_kinds(row, rounds))
            if len(row) == 1:
                self.assertEqual(course_kinds(row, [0] * 5), kinds(row[0], 5))

    def test_errors(self):
        faults(lambda row: course_kinds(row, None), BadNetRow, "index", row_pairs())
        pairs = [(thing, 0) for thing in ANY_OBJECTS if not isinstance(thing, (list, tuple))]
        for thing in ANY_OBJECTS + [2, 3]:
            if not (type(thing) is int and 0 <= thing < 2):
                pairs += [([thing], 0), ([1, 0, thing, thing], 2), ((0, 0, 0, thing, None), 3)]
        faults(lambda course: course_kinds(PATHS, course), BadCourse, "index", pairs)


class TestParting(unittest.TestCase):
    def test_first_shortest_course(self):
        met = set()
        for row in SAMPLES:
            ever = row_kinds_for_ever(row)
            for one, other in itertools.product(range(len(row[0])), repeat=2):
                told = parting_course(row=row, one=one, other=other)
                found = [course for _, courses in few_courses(row) for course in courses
                         if slow_labels(row, course)[one] != slow_labels(row, course)[other]]
                if found:
                    self.assertEqual(told, found[0])
                    self.assertIs(type(told), list)
                elif told is not None:
                    self.assertGreater(len(row) ** (len(told)), 70)
                    labels = slow_labels(row, told)
                    self.assertNotEqual(labels[one], labels[other])
                together = [lot for lot in ever if one in lot and other in lot]
                self.assertEqual(told is None, bool(together))
                met.add(None if told is None else len(told))
        self.assertLessEqual({None, 0, 1, 2}, met)

    def test_finest_course(self):
        met = set()
        for row in SAMPLES:
            ever = row_kinds_for_ever(row)
            told = finest_course(row=row)
            found = [course for _, courses in few_courses(row) for course in courses if course_kinds(row, course) == ever]
            if found:
                self.assertEqual(told, found[0])
            self.assertEqual(lots(slow_labels(row, told)), ever)
            met.add(len(told))
        self.assertLessEqual({0, 1, 2}, met)

    def test_orders_parting(self):
        met = set()
        for row in SAMPLES:
            for one, other in itertools.combinations(range(len(row[0])), 2):
                wanted = [list(order) for order in itertools.permutations(range(len(row)))
                          if slow_labels(row, order)[one] != slow_labels(row, order)[other]]
                told = orders_parting(row=row, one=one, other=other)
                self.assertEqual(told, wanted)
                self.assertTrue(all(type(order) is list for order in told))
                met.add(0 if not told else 1 if len(told) < len(list(itertools.permutations(row))) else 2)
        self.assertEqual(met, {0, 1, 2})

    def test_errors(self):
        for call in (parting_course, orders_parting, must_part, keeping, lambda *given: is_keeping(*given, None)):
            faults(lambda row: call(row, None, None), BadNetRow, "index", row_pairs())
            bad = [(thing, thing) for thing in ANY_OBJECTS + [3] if type(thing) is not int or not 0 <= thing < 3]
            faults(lambda one: call(PATHS, one, None), NoPlace, "thing", bad)
            faults(lambda other: call(PATHS, 2, other), NoPlace, "thing", bad)
        faults(finest_course, BadNetRow, "index", row_pairs())


def slow_must_part(row, one, other):
    """All courses, level by level; None where some keep the places alike for as many rounds as there are places."""
    alike = [[]]
    rounds = 0
    while alike:
        alike = [course for course in alike if slow_labels(row, course)[one] == slow_labels(row, course)[other]]
        if not alike:
            return rounds
        if rounds > len(row[0]):
            return None
        alike = [course + [index] for course in alike[:60] for index in range(len(row))]
        rounds += 1


class TestWhateverComes(unittest.TestCase):
    def test_must_part_or_keeping(self):
        met = set()
        for row in SAMPLES:
            unlike = len(set(map(repr, row[0].signs())))
            for one, other in itertools.product(range(len(row[0])), repeat=2):
                most = must_part(row=row, one=one, other=other)
                kept = keeping(row=row, one=one, other=other)
                self.assertEqual(most is None, kept is not None)
                met.add(most)
                if kept is None:
                    self.assertLessEqual(most, len(row[0]) - unlike)
                    if len(row) ** most <= 60:
                        self.assertEqual(slow_must_part(row, one, other), most)
                    self.assertFalse(is_keeping(row, one, other, ([], [0])))
                else:
                    self.assertIs(type(kept), tuple)
                    course, ring_course = kept
                    self.assertEqual([type(course), type(ring_course)], [list, list])
                    self.assertTrue(ring_course)
                    for times in range(6):
                        labels = slow_labels(row, course + ring_course * times)
                        self.assertEqual(labels[one], labels[other])
                    self.assertTrue(is_keeping(row=row, one=one, other=other, thing=kept))
                    self.assertEqual(keeping(list(row), one, other), kept)
        self.assertLessEqual({None, 0, 1, 2}, met)

    def test_late_ones(self):
        """Each net parts one more, in whatever order they come."""
        signs = ["a"] * 4 + ["b"]
        chain = Net(signs, [(4, 3, "", ""), (3, 2, "", ""), (2, 1, "", ""), (1, 0, "", "")])
        self.assertEqual(must_part([chain], 0, 1), 3)
        self.assertEqual(must_part([chain, chain], 0, 3), 1)
        self.assertEqual(keeping([chain, Net(signs, [])], 0, 3), ([], [1]))
        self.assertIsNone(must_part([chain, Net(signs, [])], 0, 3))
        self.assertEqual(must_part([chain, Net(signs, [])], 0, 4), 0)

    def test_keeping_by_one_net(self):
        """What one net alone does not keep alike no course keeps alike."""
        for row in SAMPLES:
            for one, other in itertools.combinations(range(len(row[0])), 2):
                alone = [index for index, net in enumerate(row)
                         if [lot for lot in kinds_for_ever(net) if one in lot and other in lot]]
                self.assertEqual(must_part(row, one, other) is None, bool(alone))
                for _, courses in few_courses(row):
                    for course in courses[:20]:
                        for ring_course in ([0], list(range(len(row))), course):
                            if ring_course and is_keeping(row, one, other, (course, ring_course)):
                                self.assertTrue(alone)

    def test_is_keeping(self):
        pick = random.Random(4)
        met = set()
        for row in SAMPLES:
            many = len(row)
            for _ in range(6):
                one, other = pick.randrange(len(row[0])), pick.randrange(len(row[0]))
                course = [pick.randrange(many) for _ in range(pick.randrange(3))]
                ring_course = [pick.randrange(many) for _ in range(pick.randint(1, 3))]
                labels = slow_labels(row, course + ring_course * len(row[0]))
                wanted = labels[one] == labels[other]
                for thing in ((course, ring_course), [tuple(course), ring_course]):
                    self.assertIs(is_keeping(row, one, other, thing), wanted)
                met.add(wanted)
                self.assertFalse(is_keeping(row, one, other, (course, [])))
                self.assertFalse(is_keeping(row, one, other, (course, ring_course, [])))
        self.assertEqual(met, {True, False})

    def test_is_keeping_of_any_object(self):
        for thing in ANY_OBJECTS:
            self.assertIs(is_keeping(PATHS, 0, 0, thing), False)
            for pair in ((thing, [0]), ([], thing), ([thing], [0]), ([], [0, thing]), ([0], [thing])):
                good = [row for row in pair if isinstance(row, (list, tuple)) and all(type(at) is int and 0 <= at < 2
                                                                                     for at in row)]
                self.assertIs(is_keeping(PATHS, 0, 0, pair), len(good) == 2 and len(pair[1]) > 0)
        self.assertFalse(is_keeping(PATHS, 0, 0, ([], [2])))
        self.assertFalse(is_keeping(PATHS, 0, 0, ([True], [0])))

    def test_limits(self):
        pick = random.Random(6)
        signs = ["a"] * 8
        for seed in range(6):
            row = [Net(signs, [(pick.randrange(8), pick.randrange(8), 0, 0) for _ in range(pick.choice([3, 9, 40]))])
                   for _ in range(4)]
            finest_course(row)
            for one, other in itertools.combinations(range(8), 2):
                self.assertEqual(must_part(row, one, other) is None, keeping(row, one, other) is not None)
                parting_course(row, one, other)
                orders_parting(row, one, other)
        row = [Net(["a"] * 12, [(pick.randrange(12), pick.randrange(12), 0, 0) for _ in range(40)]) for _ in range(6)]
        course = [pick.randrange(6) for _ in range(1000)]
        self.assertEqual(course_kinds(row, course), lots(slow_labels(row, course)))


if __name__ == "__main__":
    unittest.main()
