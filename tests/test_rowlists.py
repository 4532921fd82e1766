"""Points 92, 93: rows that are alike for so many rounds, and wishes on lists of rows."""

import itertools
import math
import random
import unittest

from samefromhere.errors import (BadAnswers, BadNetRow, BadNetRows, BadNumber, BadPlan, NoPlace, NoWord)
from samefromhere.nets import Net
from samefromhere.netrows import row_answers, row_view
from samefromhere.rowkinds import row_kinds
from samefromhere.rowlists import break_rows, row_choice, rows_alike_for, rows_kinds
from tests.helpers import ANY_OBJECTS, LONE, R, S, Counting, faults, mix_plan, not_words, ring
from tests.test_netrows import PATHS, ROWS, random_row, row_pairs

PAIRS = Net(["a", "b"] * 2, [(0, 1, "", ""), (2, 3, "", "")])


def labels_of(rows, rounds):
    """For each row the list of labels, equal just for equal row views."""
    labels = [[repr(sign) for sign in row[0].signs()] for row in rows]
    for done in range(rounds):
        grown = []
        for row, line in zip(rows, labels):
            net = row[done % len(row)]
            grown.append([repr((line[at], sorted(repr((into, out, line[one])) for one, other, out, into in net.roads()
                                                 if other == at))) for at in range(len(net))])
        names = {label: str(at) for at, label in enumerate(sorted({label for line in grown for label in line}))}
        labels = [[names[label] for label in line] for line in grown]
    return labels


def lists_of_rows(many=60):
    pick = random.Random(9)
    found = [[PATHS], [PATHS, PATHS[::-1]], [[R], [PAIRS]], [[R, PAIRS], [PAIRS, R]], [[LONE]], [[S], [R]]]
    for _ in range(many):
        found.append([pick.choice(ROWS) for _ in range(pick.randint(1, 3))])
        seed = pick.randrange(1000)
        row = random_row(seed, signs=1, marks=1, most=4)
        found.append([row, row[1:] + row[:1], row * 2])
    return found


def row_list_pairs():
    pairs = [(thing, 0) for thing in ANY_OBJECTS if not isinstance(thing, (list, tuple))] + [([], 0), ((), 0)]
    for thing in ANY_OBJECTS + [[R, S], (R, None), []]:
        is_row = isinstance(thing, (list, tuple)) and len(thing) and all(isinstance(net, Net) for net in thing) \
            and len({str(net.signs()) for net in thing}) == 1
        if not is_row:
            pairs += [([thing], 0), (([R], (S, S), thing, thing), 2)]
    return pairs


class TestAlike(unittest.TestCase):
    def test_by_views(self):
        found = set()
        for rows in lists_of_rows(40):
            one, other = rows[0], rows[-1]
            most = (len(one[0]) + len(other[0]) - 1) * math.lcm(len(one), len(other))
            lines = [labels_of([one, other], rounds) for rounds in range(most + 2)]
            for p in range(len(one[0])):
                for q in range(len(other[0])):
                    alike = [rounds for rounds, (near, away) in enumerate(lines) if near[p] == away[q]]
                    wanted = None if len(alike) == len(lines) else max(alike, default=-1)
                    told = rows_alike_for(one=one, place=p, other=other, far=q)
                    self.assertEqual(told, wanted)
                    found.add(told)
                    if told is not None:
                        self.assertLess(told, most)
        self.assertLessEqual({None, -1, 0, 1, 2}, found)

    def test_by_written_views(self):
        for one, other in itertools.product(ROWS[:8], repeat=2):
            for p in range(len(one[0])):
                for q in range(len(other[0])):
                    told = rows_alike_for(one, p, other, q)
                    for rounds in range(4):
                        self.assertEqual(row_view(one, p, rounds) == row_view(other, q, rounds),
                                         told is None or rounds <= told)

    def test_edges(self):
        far = ([Net(["a"], [])] * 2 + [Net(["a"], [(0, 0, 0, 0)])], [Net(["a"], [])])
        self.assertEqual(rows_alike_for(far[0], 0, far[1], 0), 2)
        self.assertEqual(rows_alike_for([R], 0, [R], 1), -1)
        self.assertIsNone(rows_alike_for([R], 0, [R, R], 2))

    def test_errors(self):
        faults(lambda row: rows_alike_for(row, None, None, None), BadNetRow, "index", row_pairs())
        faults(lambda row: rows_alike_for([R], None, row, None), BadNetRow, "index", row_pairs())
        bad = [(thing, thing) for thing in ANY_OBJECTS + [4] if type(thing) is not int or not 0 <= thing < 4]
        faults(lambda place: rows_alike_for([R], place, [R], None), NoPlace, "thing", bad)
        faults(lambda far: rows_alike_for([S], 2, [R], far), NoPlace, "thing", bad)


class TestRowsKinds(unittest.TestCase):
    def test_kinds(self):
        for rows in lists_of_rows():
            for rounds in (0, 1, 2, 3, 7, 30):
                labels = labels_of(rows, rounds)
                lots = {}
                for index, line in enumerate(labels):
                    for place, label in enumerate(line):
                        lots.setdefault(label, []).append((index, place))
                self.assertEqual(rows_kinds(rows=rows, rounds=rounds), sorted(lots.values()))
                self.assertEqual(rows_kinds(tuple(map(tuple, rows)), rounds), sorted(lots.values()))

    def test_one_row_alone(self):
        for row in ROWS[:30]:
            self.assertEqual(rows_kinds([row], 5), [[(0, place) for place in lot] for lot in row_kinds(row, 5)])

    def test_errors(self):
        faults(lambda rows: rows_kinds(rows, None), BadNetRows, "index", row_list_pairs())
        faults(lambda rounds: rows_kinds([[R]], rounds), BadNumber, "thing",
               [(thing, thing) for thing in ANY_OBJECTS if type(thing) is not int or thing < 0])

    def test_limits(self):
        pick = random.Random(3)
        rows = [[Net(["a"] * 12, [(pick.randrange(12), pick.randrange(12), 0, 0) for _ in range(40)])
                 for _ in range(many)] for many in (6, 5, 4, 3)]
        labels = labels_of(rows, 20)
        self.assertEqual(len(rows_kinds(rows, 1000)), len({label for line in labels for label in line}))


def wish_samples():
    """Triples (rows, answers, right) of few kinds."""
    found = []
    for rows in lists_of_rows(40):
        if len(rows_kinds(rows, 30)) <= 6:
            found.append((rows, [0, 1], lambda index, told: told.count(1) == 1))
            found.append((rows, ["b", (0, 1), "a"], lambda index, told: len(set(told)) > index))
            if len(rows_kinds(rows, 30)) <= 4:
                found.append((rows, [3, 2, 1, 0], lambda index, told: len(set(told)) == len(told)))
    return found


def slow_choice(rows, rounds, answers, right):
    lots = rows_kinds(rows, rounds)
    for numbers in itertools.product(range(len(answers)), repeat=len(lots)):
        told = [[None] * len(row[0]) for row in rows]
        for number, lot in zip(numbers, lots):
            for index, place in lot:
                told[index][place] = answers[number]
        if all(right(index, tuple(row)) is True for index, row in enumerate(told)):
            return [answers[number] for number in numbers]
    return None


class TestChoice(unittest.TestCase):
    def test_first_choice(self):
        both = {True: 0, False: 0}
        for rows, answers, right in wish_samples():
            for rounds in (0, 1, 3):
                wanted = slow_choice(rows, rounds, answers, right)
                told = row_choice(rows=rows, rounds=rounds, answers=answers, right=right)
                self.assertEqual(told, wanted)
                both[told is None] += 1
        self.assertGreater(min(both.values()), 50)

    def test_true_itself(self):
        for thing in (1, "yes", [True], (0,), LONE):
            self.assertIsNone(row_choice([[R]], 0, [0, 1], lambda index, told: thing))
        self.assertEqual(row_choice([[R]], 0, [0, 1], lambda index, told: True), [0, 0])

    def test_asked_once_in_tuples(self):
        for rows, answers, _ in wish_samples():
            asked = []

            def right(index, told):
                asked.append((index, told))
                return False

            row_choice(rows, 2, answers, right)
            self.assertEqual(len(asked), len(set(asked)))
            asked.clear()
            row_choice([rows[0], rows[0]], 2, answers, lambda index, told: right(index, told) or index == 0)
            self.assertEqual(len(asked), len(set(asked)))

    def test_lists_for_tuples(self):
        def right(index, told):
            return told == (("a", (0,)), ()) * 2

        for answers in ([[], ["a", [0]]], ((), ("a", (0,)))):
            told = row_choice([[R]], 0, answers, right)
            self.assertEqual(told, [("a", (0,)), ()])

    def test_errors(self):
        faults(lambda rows: row_choice(rows, None, None, None), BadNetRows, "index", row_list_pairs())
        faults(lambda rounds: row_choice([[R]], rounds, None, None), BadNumber, "thing",
               [(thing, thing) for thing in ANY_OBJECTS if type(thing) is not int or thing < 0])
        pairs = [(thing, 0) for thing in ANY_OBJECTS if not isinstance(thing, (list, tuple))] + [([], 0), ((), 0)]
        for thing in not_words() + [7, (1,), [1]]:
            pairs += [([7, (1,), thing, thing], 2)]
        faults(lambda answers: row_choice([[R]], 0, answers, None), BadAnswers, "index", pairs)

        def right(index, told):
            raise KeyError

        with self.assertRaises(KeyError):
            row_choice([[R]], 0, [0], right)

    def test_limits(self):
        rows = [[ring(list("abcdef"))], [ring(list("fedcba"))]]
        asked = []

        def right(index, told):
            asked.append(told)
            return index == 1 or told == (3,) * 6

        self.assertEqual(row_choice(rows, 0, [0, 1, 2, 3], right), [3] * 6)
        self.assertEqual(len(set(asked)), 4 ** 6)


class TestBreak(unittest.TestCase):
    def test_each_plan_is_wrong_or_there_is_a_choice(self):
        barred = right_ones = 0
        for rows, answers, right in wish_samples():
            for rounds in (0, 2):
                choice = row_choice(rows, rounds, answers, right)
                for modulus in (2, 3, 7):
                    plan = mix_plan(modulus)[:3] + (lambda state: answers[state % len(answers)],)
                    told = break_rows(rows=rows, rounds=rounds, right=right, plan=plan)
                    wanted = None
                    for index, row in enumerate(rows):
                        given = tuple(row_answers(row, plan, rounds))
                        if wanted is None and right(index, given) is not True:
                            wanted = (index, given)
                    self.assertEqual(told, wanted)
                    right_ones += told is None
                    if choice is None:
                        self.assertIsNotNone(told)
                        barred += 1
        self.assertGreater(barred, 20)
        self.assertGreater(right_ones, 20)

    def test_any_answers(self):
        for answer in ANY_OBJECTS:
            plan = (lambda sign: 0, lambda state, out: 0, lambda state, heard: 0, lambda state: answer)
            told = break_rows([[LONE], [S]], 1, lambda index, given: index == 0, plan)
            self.assertIsInstance(told, tuple)
            self.assertEqual(told[0], 1)
            self.assertIsInstance(told[1], tuple)
            self.assertEqual(len(told[1]), 3)
            self.assertTrue(all(given is answer for given in told[1]))
            for thing in (1, None, "yes"):
                self.assertEqual(break_rows([[LONE]], 1, lambda index, given: thing, plan)[0], 0)
            self.assertIsNone(break_rows([[LONE]], 1, lambda index, given: True, plan))

    def test_none_behind_is_run(self):
        met = []

        def begin(sign):
            met.append(sign)
            return sign

        plan = (begin, lambda state, out: 0, lambda state, heard: state, lambda state: state)
        self.assertEqual(break_rows([[LONE], [S], [R]], 0, lambda index, told: index != 1, plan), (1, ("x", "y", "y")))
        self.assertEqual(met, ["a", "x", "y"])

    def test_asked_once(self):
        count = Counting(mix_plan(3))
        asked = []

        def right(index, told):
            asked.append(index)
            return True

        self.assertIsNone(break_rows([PATHS, [R, PAIRS], PATHS], 4, right, count.functions))
        self.assertEqual(asked, [0, 1, 2])
        self.assertEqual(len(count.asked), len(set(map(repr, count.asked))))

    def test_errors_in_order(self):
        faults(lambda rows: break_rows(rows, None, None, None), BadNetRows, "index", row_list_pairs())
        faults(lambda plan: break_rows([[R]], None, None, plan), BadPlan, "thing",
               [(thing, thing) for thing in ANY_OBJECTS + [(len,) * 5]])
        faults(lambda rounds: break_rows([[R]], rounds, None, mix_plan()), BadNumber, "thing",
               [(thing, thing) for thing in ANY_OBJECTS if type(thing) is not int or thing < 0])
        with self.assertRaises(NoWord) as caught:
            break_rows([[LONE], [R]], 0, lambda index, told: True, (lambda sign: None, len, len, len))
        self.assertIsNone(caught.exception.thing)

        def right(index, told):
            raise KeyError

        with self.assertRaises(KeyError):
            break_rows([[R]], 0, right, mix_plan())


if __name__ == "__main__":
    unittest.main()
