"""Points 88 to 91: rows of nets, their views, kinds and least rows."""

import functools
import itertools
import random
import unittest

from samefromhere.errors import BadNetRow, BadNumber, BadPlan, NoPlace, NoWord
from samefromhere.kinds import kinds, kinds_for_ever, ranks, rounds_needed
from samefromhere.leastnets import is_map, least_net
from samefromhere.nets import Net
from samefromhere.netrows import row_answers, row_states, row_view
from samefromhere.partings import is_even
from samefromhere.plans import states, told
from samefromhere.rowkinds import is_row_map, least_row, row_kinds, row_kinds_for_ever, row_ranks, row_rounds
from tests.helpers import (ANY_OBJECTS, LONE, ODD_WORDS, R, S, Counting, all_partings, ascending, compare_words, faults,
                           mix_plan, ring)

def random_row(seed, most=5, nets=4, signs=2, roads=6, marks=2):
    pick = random.Random(seed)
    many = pick.randint(1, most)
    words = [pick.choice(ODD_WORDS) for _ in range(signs)]
    told = [pick.choice(words) for _ in range(many)]
    row = []
    for _ in range(pick.randint(1, nets)):
        if row and pick.random() < 0.2:
            row.append(pick.choice(row))
            continue
        ends = [pick.choice(ODD_WORDS) for _ in range(marks)]
        row.append(Net(told, [(pick.randrange(many), pick.randrange(many), pick.choice(ends), pick.choice(ends))
                              for _ in range(pick.choice([0, 2, roads]))]))
    return row


PATHS = [Net(["a"] * 3, [(0, 1, "", "")]), Net(["a"] * 3, [(1, 2, "", "")])]
ROWS = [PATHS, [R], [S], [LONE], [LONE] * 3, [Net(["a"] * 4, []), ring("aaaa")],
        [Net(["a"] * 4, [])] * 5 + [Net(["a"] * 4, [(0, 1, "", "")])]]
ROWS += [random_row(seed) for seed in range(50)] + [random_row(seed, signs=1, marks=1, roads=3) for seed in range(50, 110)]


def slow_row_view(row, place, rounds):
    if rounds == 0:
        return 0, row[0].signs()[place], ()
    net = row[(rounds - 1) % len(row)]
    heard = [(into, out, slow_row_view(row, one, rounds - 1)) for one, other, out, into in net.roads() if other == place]
    return rounds, slow_row_view(row, place, rounds - 1), tuple(ascending(heard))


def slow_row_kinds(row, rounds):
    labels = [repr(sign) for sign in row[0].signs()]
    for done in range(rounds):
        net = row[done % len(row)]
        labels = [repr((labels[at], sorted(repr((into, out, labels[one])) for one, other, out, into in net.roads()
                                           if other == at))) for at in range(len(net))]
        names = {label: str(at) for at, label in enumerate(sorted(set(labels)))}
        labels = [names[label] for label in labels]
    lots = {}
    for at, label in enumerate(labels):
        lots.setdefault(label, []).append(at)
    return list(lots.values())


def slow_ranks(row):
    """Told straight from point 91, by words as they compare."""
    def numbers(things):
        key = functools.cmp_to_key(compare_words)
        unlike = []
        for thing in sorted(things, key=key):
            if not unlike or unlike[-1] != thing:
                unlike.append(thing)
        return [unlike.index(thing) for thing in things]

    line = numbers(row[0].signs())
    idle = done = 0
    while idle < len(row):
        net = row[done % len(row)]
        later = numbers([(line[at], tuple(ascending((into, out, line[one]) for one, other, out, into in net.roads()
                                                    if other == at))) for at in range(len(net))])
        idle = idle + 1 if len(set(later)) == len(set(line)) else 0
        line = later
        done += 1
    return line


def row_pairs():
    pairs = [(thing, 0) for thing in ANY_OBJECTS if not isinstance(thing, (list, tuple))] + [([], 0), ((), 0)]
    for thing in ANY_OBJECTS + [Net(["a", "b", "a"], []), Net(["a", "b", "a", "c"], []), Net(["b", "a"] * 2, [])]:
        if not (isinstance(thing, Net) and thing == R):
            pairs += [([R, thing, thing], 1), ((R, R, R, thing), 3)]
        if not isinstance(thing, Net):
            pairs.append(([thing, R], 0))
    return pairs


class TestRuns(unittest.TestCase):
    def test_each_round_by_its_own_net(self):
        begin, say, hear, tell = mix_plan(11)
        for row in ROWS:
            stand = [begin(sign) for sign in row[0].signs()]
            for rounds in range(7):
                plan = (begin, say, hear, tell)
                self.assertEqual(row_states(row=row, plan=plan, rounds=rounds), stand)
                self.assertEqual(row_answers(row=tuple(row), plan=list(plan), rounds=rounds), [tell(at) for at in stand])
                net = row[rounds % len(row)]
                heard = [tuple(ascending((into, say(stand[one], out)) for one, other, out, into in net.roads()
                                         if other == at)) for at in range(len(net))]
                stand = [hear(state, pairs) for state, pairs in zip(stand, heard)]

    def test_one_net_alone(self):
        for net in (R, S, LONE, ring("aab")):
            for many in (1, 3):
                for rounds in (0, 1, 4):
                    self.assertEqual(row_states([net] * many, mix_plan(), rounds), states(net, mix_plan(), rounds))
                    self.assertEqual(row_answers([net] * many, mix_plan(), rounds), told(net, mix_plan(), rounds))

    def test_errors(self):
        for call in (row_states, row_answers):
            faults(lambda row: call(row, None, None), BadNetRow, "index", row_pairs())
            faults(lambda plan: call([R], plan, None), BadPlan, "thing",
                   [(thing, thing) for thing in ANY_OBJECTS + [(len,) * 3]])
            faults(lambda rounds: call([R], mix_plan(), rounds), BadNumber, "thing",
                   [(thing, thing) for thing in ANY_OBJECTS if type(thing) is not int or thing < 0])
            for thing in (None, True, [[True]], {}, R):
                for plan in [(lambda sign: thing, len, len, len),
                             (lambda sign: 0, lambda state, out: thing, lambda state, heard: 0, len),
                             (lambda sign: 0, lambda state, out: 0, lambda state, heard: thing, len)]:
                    with self.assertRaises(NoWord) as caught:
                        call([R, Net(["a", "b"] * 2, [])], plan, 2)
                    self.assertIs(caught.exception.thing, thing)

    def test_said_just_for_roads_of_the_round(self):
        asked = []

        def say(state, out):
            asked.append((state, out))
            return 0

        row = [Net(["a", "a"], [(0, 1, "x", "")]), Net(["a", "a"], []), Net(["a", "a"], [(1, 0, "y", "")])]
        row_states(row, (lambda sign: 0, say, lambda state, heard: state + 1, len), 4)
        self.assertEqual(asked, [(0, "x"), (2, "y"), (3, "x")])

    def test_asked_once(self):
        for row in ROWS[:20]:
            count = Counting(mix_plan(3))
            row_answers(row, count.functions, 5)
            self.assertEqual(len(count.asked), len(set(map(repr, count.asked))))

    def test_raised_errors_go_through(self):
        def hear(state, heard):
            raise LookupError

        with self.assertRaises(LookupError):
            row_states(PATHS, (lambda sign: 0, lambda state, out: 0, hear, len), 1)
        self.assertEqual(row_states(PATHS, (lambda sign: [sign], lambda state, out: 0, hear, len), 0), [("a",)] * 3)

    def test_a_row_is_copied(self):
        row = [R, R]
        told_states = row_states(row, mix_plan(), 1)
        told_states.append(None)
        self.assertEqual(len(row_states(row, mix_plan(), 1)), 4)
        self.assertEqual(row, [R, R])


class TestRowViews(unittest.TestCase):
    def test_views(self):
        for row in ROWS:
            for place in range(len(row[0])):
                for rounds in range(5):
                    seen = row_view(row=row, place=place, rounds=rounds)
                    self.assertEqual(seen, slow_row_view(row, place, rounds))
                    if rounds:
                        self.assertIs(type(seen[2]), tuple)
        self.assertEqual(row_view([S], 1, 1), (1, (0, "y", ()), (("", "", (0, "x", ())),)))

    def test_equal_ones_are_in_equal_states(self):
        plans = [mix_plan(101), (lambda sign: sign, lambda state, out: [out, state],
                                 lambda state, heard: [state, heard], lambda state: state)]
        for row in ROWS[:40]:
            for rounds in range(4):
                seen = [row_view(row, place, rounds) for place in range(len(row[0]))]
                for number, plan in enumerate(plans):
                    stand = row_states(row, plan, rounds)
                    for p, q in itertools.combinations(range(len(seen)), 2):
                        if seen[p] == seen[q]:
                            self.assertEqual(stand[p], stand[q])
                        elif number == 1:
                            self.assertNotEqual(stand[p], stand[q])

    def test_errors(self):
        faults(lambda row: row_view(row, None, None), BadNetRow, "index", row_pairs())
        faults(lambda place: row_view([R], place, None), NoPlace, "thing",
               [(thing, thing) for thing in ANY_OBJECTS + [4] if type(thing) is not int or not 0 <= thing < 4])
        faults(lambda rounds: row_view([R], 0, rounds), BadNumber, "thing",
               [(thing, thing) for thing in ANY_OBJECTS if type(thing) is not int or thing < 0])

    def test_limits(self):
        pick = random.Random(0)
        row = [Net(["a"] * 12, [(pick.randrange(12), pick.randrange(12), pick.randrange(2), 0) for _ in range(40)])
               for _ in range(6)]
        seen = row_view(row, 0, 4)
        self.assertEqual(seen[0], 4)
        self.assertEqual(seen, slow_row_view(row, 0, 4))


class TestRowKinds(unittest.TestCase):
    def test_kinds(self):
        late = 0
        for row in ROWS:
            rounds = row_rounds(row=row)
            late += rounds > len(row)
            for some in list(range(6)) + [rounds, rounds + 1, 1000]:
                self.assertEqual(row_kinds(row=row, rounds=some), slow_row_kinds(row, min(some, 60)))
            ever = row_kinds_for_ever(row=row)
            self.assertEqual(ever, slow_row_kinds(row, 60))
            self.assertEqual(row_kinds(row, rounds), ever)
            self.assertTrue(rounds == 0 or row_kinds(row, rounds - 1) != ever)
            self.assertLessEqual(rounds, (len(row[0]) - 1) * len(row))
        self.assertGreater(late, 5)

    def test_by_views(self):
        for row in ROWS[:40]:
            for rounds in range(4):
                seen = [row_view(row, place, rounds) for place in range(len(row[0]))]
                lots = [[q for q in range(len(seen)) if seen[q] == seen[p]] for p in range(len(seen))]
                self.assertEqual(row_kinds(row, rounds), sorted({tuple(lot): lot for lot in lots}.values()))

    def test_fewest_lists_that_are_even_in_each_net(self):
        for row in ROWS:
            if len(row[0]) <= 5:
                even = [sorted(parting) for parting in all_partings(len(row[0]))
                        if all(is_even(net, sorted(parting)) for net in row)]
                least = min(even, key=len)
                self.assertEqual(row_kinds_for_ever(row), least)
                self.assertEqual(row_kinds_for_ever(row[::-1]), least)

    def test_one_net_alone(self):
        for net in (R, S, LONE, ring("aab"), ring("aaaab")):
            self.assertEqual(row_kinds_for_ever([net]), kinds_for_ever(net))
            self.assertEqual(row_rounds([net]), rounds_needed(net))
            self.assertEqual(row_ranks([net]), ranks(net))
            self.assertEqual(least_row([net]), [least_net(net)])
            self.assertEqual([row_kinds([net], rounds) for rounds in range(4)], [kinds(net, rounds) for rounds in range(4)])

    def test_errors(self):
        for call in (lambda row: row_kinds(row, None), row_kinds_for_ever, row_rounds, row_ranks, least_row,
                     lambda row: is_row_map(row, None, None), lambda row: is_row_map([R], row, None)):
            faults(call, BadNetRow, "index", row_pairs())
        faults(lambda rounds: row_kinds([R], rounds), BadNumber, "thing",
               [(thing, thing) for thing in ANY_OBJECTS if type(thing) is not int or thing < 0])

    def test_limits(self):
        signs = ["a"] * 11 + ["b"]
        row = [Net(signs, [])] * 5 + [ring(signs)]
        self.assertEqual(row_rounds(row), 60)
        self.assertEqual(len(row_kinds(row, 59)), 11)
        self.assertEqual(len(row_kinds(row, 1000)), 12)
        pick = random.Random(4)
        row = [Net(signs, [(pick.randrange(12), pick.randrange(12), 0, 0) for _ in range(40)]) for _ in range(6)]
        self.assertEqual(row_kinds(row, 1000), slow_row_kinds(row, 70))


class TestLeastRows(unittest.TestCase):
    def test_ranks(self):
        for row in ROWS:
            told_ranks = row_ranks(row=row)
            self.assertIsInstance(told_ranks, list)
            self.assertEqual(told_ranks, slow_ranks(row))
            lots = {}
            for place, rank in enumerate(told_ranks):
                lots.setdefault(rank, []).append(place)
            self.assertEqual(sorted(lots.values()), row_kinds_for_ever(row))

    def test_least_row(self):
        for row in ROWS:
            images = row_ranks(row)
            least = least_row(row=row)
            self.assertIsInstance(least, list)
            self.assertEqual(len(least), len(row))
            self.assertTrue(is_row_map(row=row, base=least, thing=images))
            self.assertEqual(len(least[0]), max(images) + 1)
            self.assertEqual(row_kinds_for_ever(least), [[place] for place in range(len(least[0]))])
            self.assertEqual(least_row(least), least)
            for rounds in range(4):
                for place, image in enumerate(images):
                    self.assertEqual(row_view(row, place, rounds), row_view(least, image, rounds))

    def test_maps(self):
        for row in ROWS[:30]:
            least = least_row(row)
            many = len(row[0])
            for images in itertools.islice(itertools.product(range(len(least[0])), repeat=many), 60):
                wanted = all(is_map(net, base, images) for net, base in zip(row, least))
                self.assertIs(is_row_map(row, least, list(images)), wanted)
                self.assertIs(is_row_map(row, least + least[:1], images), False)
        for thing in ANY_OBJECTS + [[0, 1, 2, True], [0, 1, 2], [0, 1, 2, 3, 0], [0, 1, 2, 4], [0, 1, 2, -1]]:
            self.assertIs(is_row_map([R, R], [R, R], thing), False)
        self.assertIs(is_row_map([R, R], [R, R], (2, 3, 0, 1)), True)
        self.assertIs(is_row_map([R, R], [R], (2, 3, 0, 1)), False)


if __name__ == "__main__":
    unittest.main()
