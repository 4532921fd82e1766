"""Points 47 to 49, 55: bases, count rows, questions."""

import itertools
import unittest

from samefromhere.alike import alike_pairs
from samefromhere.countrows import count_row, count_rows, is_count_row
from samefromhere.errors import BadBase, BadCounts, BadNumber, BadPlan, IsSure, NoWord, NotOver
from samefromhere.joins import lone_place, strong_lift
from samefromhere.kinds import kinds_for_ever
from samefromhere.leastnets import least_net
from samefromhere.liftcounts import count_picks
from samefromhere.lifts import lift
from samefromhere.madenets import beside, renamed
from samefromhere.nets import Net
from samefromhere.plans import told
from samefromhere.questions import break_count, rows_apart
from samefromhere.shapes import is_strong
from samefromhere.turns import turned_lift
from samefromhere.views import view_plan
from tests.helpers import (ANY_OBJECTS, LONE, LOOPS, R, S, Counting, as_lists, bases, faults, mix_plan,
                           random_two_way, ring, samples)

B = Net(["a", "b"], [(0, 1, "", 0), (0, 1, "", 1), (1, 0, "", "")])
BASES = bases(20)
NO_BASES = [thing for thing in ANY_OBJECTS] + [S, LONE, R, ring("aa"), beside([ring("ab"), ring("ab")]),
                                               Net(["a", "b"], [(0, 1, "", "")]), Net(["a", "b"], [])]


def not_reached(*given):
    raise AssertionError


def all_picks(base, copies):
    """All picks of a lift."""
    rows = []
    for place in range(len(base)):
        senders = [road[0] for road in base.roads() if road[1] == place]
        row = list(itertools.product(*[range(copies[sender]) for sender in senders]))
        rows.append(list(itertools.product(row, repeat=copies[place])))
    return itertools.product(*rows)


def slow_is_row(base, copies):
    return any(is_strong(lift(base, copies, picks)) for picks in all_picks(base, copies))


class TestCountRow(unittest.TestCase):
    def test_lifts(self):
        for base in BASES:
            for row in count_rows(base, 6):
                net = lift(base, row, strong_lift(base, row))
                self.assertEqual(count_row(net=net, base=base), row)
                order = list(range(len(net)))[::-1]
                self.assertEqual(count_row(renamed(net, order), base), row)
            for row in itertools.islice(count_rows(base, 5), 3):
                net = lift(base, row, strong_lift(base, row))
                counted = [len([p for p, q in alike_pairs(net, base) if q == place]) for place in range(len(base))]
                self.assertEqual(count_row(net, base), tuple(counted))

    def test_not_over(self):
        for net in samples(30):
            for base in BASES:
                pairs = alike_pairs(net, base)
                over = is_strong(net) and {p for p, _ in pairs} == set(range(len(net)))
                if over:
                    self.assertEqual(count_row(net, base), tuple(len([p for p, q in pairs if q == place])
                                                                 for place in range(len(base))))
                else:
                    with self.assertRaises(NotOver):
                        count_row(net, base)
        for net in (beside([B, B]), LONE, ring("ab")):
            with self.assertRaises(NotOver):
                count_row(net, B)

    def test_least_nets_are_bases(self):
        for net in samples(60):
            if is_strong(net) and net.roads():
                base = least_net(net)
                row = count_row(net, base)
                self.assertEqual(sorted(row), sorted(len(lot) for lot in kinds_for_ever(net)))
                self.assertTrue(is_count_row(base, row))

    def test_two_way_nets_have_equal_numbers(self):
        for seed in range(30):
            net = random_two_way(seed)
            if net.roads():
                self.assertEqual(len(set(count_row(net, least_net(net)))), 1)
        net = turned_lift(LOOPS, 3, [(1, 0, 2), (1, 2, 0)])
        self.assertEqual(count_row(net, LOOPS), (3,))

    def test_bad_base(self):
        calls = [lambda base: count_row(None, base), lambda base: is_count_row(base, None),
                 lambda base: count_rows(base, None), lambda base: rows_apart(base, None, None),
                 lambda base: break_count(base, None, None, None, None)]
        for call in calls:
            faults(call, BadBase, "thing", [(thing, thing) for thing in NO_BASES])


class TestWhichThereAre(unittest.TestCase):
    def test_all_lifts(self):
        tried = 0
        for base in BASES:
            for copies in itertools.product(range(1, 5), repeat=len(base)):
                if sum(copies) <= 6 and count_picks(base, copies) <= 3000:
                    self.assertEqual(is_count_row(base, list(copies)), slow_is_row(base, copies), (base.roads(), copies))
                    tried += 1
        self.assertGreater(tried, 100)

    def test_lone_places(self):
        for base in BASES:
            for copies in itertools.product(range(0, 5), repeat=len(base)):
                good = 0 not in copies and lone_place(base, copies) is None
                self.assertEqual(is_count_row(base=base, thing=copies), good)

    def test_any_object(self):
        for thing in ANY_OBJECTS:
            self.assertIs(is_count_row(ring("ab"), thing), False)
        for thing in [(1,), (1, 1, 1), (True, 1), (1, True), (1, 0), (1, "1"), (1, 2), (-1, -1), [None, 1]]:
            self.assertIs(is_count_row(ring("ab"), thing), False)
        for thing in [(1, 1), [2, 2], (10 ** 9 - 1, 10 ** 9 - 1)]:
            self.assertIs(is_count_row(ring("ab"), thing), True)

    def test_count_rows(self):
        for base in BASES:
            for most in range(8):
                wanted = [row for row in itertools.product(range(1, most + 1), repeat=len(base))
                          if sum(row) <= most and is_count_row(base, row)]
                self.assertEqual(count_rows(base=base, most=most), wanted)
        self.assertEqual(count_rows(B, 0), [])
        faults(lambda most: count_rows(B, most), BadNumber, "thing",
               [(thing, thing) for thing in ANY_OBJECTS if type(thing) is not int or thing < 0])

    def test_limits(self):
        base = Net(list("abcde"), [(i, (i + 1) % 5, "", "") for i in range(5)] + [(0, 0, "", ""), (2, 0, "", ""),
                                                                              (3, 1, "", ""), (4, 4, "", "")])
        rows = count_rows(base, 12)
        self.assertIn((1, 1, 1, 1, 1), rows)
        for row in rows[::50]:
            self.assertEqual(count_row(lift(base, row, strong_lift(base, row)), base), row)

    def test_told_lists_are_new(self):
        told_rows = count_rows(B, 4)
        told_rows.append(None)
        self.assertEqual(count_rows(B, 4), told_rows[:-1])


class TestQuestions(unittest.TestCase):
    rows = [(1, 1), (2, 2), (2, 1), (3, 2)]

    def test_rows_apart(self):
        for question, wanted in [(lambda row: 0, None), (lambda row: row[0] - row[1], ((1, 1), (2, 1))),
                                 (lambda row: list(row), ((1, 1), (2, 2))), (lambda row: [[]], None),
                                 (lambda row: 7 if row == (3, 2) else "7", ((1, 1), (3, 2))),
                                 (lambda row: [1] if row[1] == 1 else (1,), None)]:
            self.assertEqual(rows_apart(base=B, rows=self.rows, question=question), wanted)
            self.assertEqual(rows_apart(B, as_lists(self.rows), question), wanted)
        self.assertIsNone(rows_apart(B, [(2, 1)], lambda row: row))
        self.assertEqual(rows_apart(B, [[2, 1], [1, 1]], lambda row: row), ((2, 1), (1, 1)))

    def test_asked_of_all_in_order(self):
        asked = []

        def question(row):
            asked.append(row)
            return len(asked)

        rows_apart(B, as_lists(self.rows), question)
        self.assertEqual(asked, self.rows)
        asked.clear()
        break_count(B, self.rows, question, view_plan(), 0)
        self.assertEqual(asked, self.rows)

    def test_bad_counts(self):
        pairs = [(thing, 0) for thing in ANY_OBJECTS if not isinstance(thing, (list, tuple))] + [([], 0), ((), 0)]
        for thing in ANY_OBJECTS + [(1, 2), (1,), (1, 1, 1), (True, 1), (0, 1)]:
            pairs += [([thing], 0), (((1, 1), [2, 1], thing, thing), 2)]
        for call in (lambda rows: rows_apart(B, rows, None), lambda rows: break_count(B, rows, None, None, None)):
            faults(call, BadCounts, "index", pairs)

    def test_no_word(self):
        for thing in [None, True, [0, False], {}, len, B, [[None]]]:
            def question(row):
                return thing if row == (2, 1) else 0

            with self.assertRaises(NoWord) as caught:
                rows_apart(B, self.rows, question)
            self.assertIs(caught.exception.thing, thing)
            with self.assertRaises(NoWord):
                break_count(B, self.rows, question, None, None)

    def test_errors_that_are_raised_go_through(self):
        def question(row):
            raise IndexError

        with self.assertRaises(IndexError):
            rows_apart(B, self.rows, question)
        with self.assertRaises(IndexError):
            break_count(B, self.rows, question, None, None)


class TestBreakCount(unittest.TestCase):
    def test_each_plan_is_wrong(self):
        for base in BASES:
            rows = count_rows(base, 5)
            for question in (lambda row: sum(row), lambda row: row[-1], lambda row: [row[0] > row[-1] and 1 or 0]):
                if len(rows) < 2 or rows_apart(base, rows, question) is None:
                    continue
                pair = rows_apart(base, rows, question)
                for plan in (view_plan(), mix_plan(), (lambda sign: 0, lambda state, out: 0, lambda state, heard: 0,
                                                       lambda state: question(pair[0]))):
                    for rounds in (0, 1, 3):
                        told_row, place = break_count(base=base, rows=rows, question=question, plan=plan, rounds=rounds)
                        wrong = []
                        for row in pair:
                            net = lift(base, row, strong_lift(base, row))
                            word = question(row)
                            bad = [at for at, answer in enumerate(told(net, plan, rounds))
                                   if answer != word or isinstance(answer, bool)]
                            wrong += [(row, at) for at in bad[:1]]
                        self.assertEqual((told_row, place), wrong[0])

    def test_truths_are_no_words(self):
        def plan(answer):
            return lambda sign: 0, lambda state, out: 0, lambda state, heard: 0, lambda state: answer

        def question(row):
            return row[0] - row[1]

        rows = [(2, 1), (1, 1)]
        self.assertEqual(break_count(B, rows, question, plan(1), 0), ((1, 1), 0))
        self.assertEqual(break_count(B, rows, question, plan(True), 0), ((2, 1), 0))
        self.assertEqual(break_count(B, rows, lambda row: [question(row)], plan([1]), 0), ((1, 1), 0))
        self.assertEqual(break_count(B, rows, lambda row: [question(row)], plan([True]), 0), ((2, 1), 0))
        self.assertEqual(break_count(B, rows, lambda row: [question(row)], plan(None), 0), ((2, 1), 0))

    def test_first_place(self):
        plan = (lambda sign: sign, lambda state, out: 0, lambda state, heard: state, lambda state: int(state == "a"))
        self.assertEqual(break_count(B, [[2, 1], [1, 1]], lambda row: row[0] - row[1], plan, 2), ((2, 1), 2))

    def test_errors_in_order(self):
        rows = [(1, 1), (2, 1)]
        good = view_plan()
        for thing in [None, (), (len, len, len), [len, len, len, None], 5, B]:
            with self.assertRaises(BadPlan) as caught:
                break_count(B, rows, lambda row: 0, thing, None)
            self.assertIs(caught.exception.thing, thing)
        for thing in (None, True, -1, "1"):
            with self.assertRaises(BadNumber) as caught:
                break_count(B, rows, lambda row: 0, good, thing)
            self.assertIs(caught.exception.thing, thing)
        strange = (lambda sign: None, len, len, len)
        with self.assertRaises(IsSure):
            break_count(B, rows, lambda row: 0, strange, 3)
        with self.assertRaises(NoWord):
            break_count(B, rows, lambda row: row, strange, 3)

    def test_a_plan_is_asked_once(self):
        count = Counting(mix_plan())
        break_count(B, [(1, 1), (4, 2)], lambda row: row, count.functions, 4)
        self.assertEqual(len(count.asked), len(set(count.asked)))
        sure = Counting((not_reached,) * 4)
        with self.assertRaises(IsSure):
            break_count(B, [(1, 1)], lambda row: row, sure.functions, 4)
        self.assertEqual(sure.asked, [])


if __name__ == "__main__":
    unittest.main()
