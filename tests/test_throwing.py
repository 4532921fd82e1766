"""Point 114: plans that throw in each round."""

import itertools
import math
import time
import unittest
from fractions import Fraction

from samefromhere.coins import best_worth
from samefromhere.errors import BadAnswers, BadNumber, BadPlan, BadRight, BadSides, NoWord
from samefromhere.nets import Net
from samefromhere.throwing import chances, chances_right
from samefromhere.written import written
from tests.helpers import (ANY_OBJECTS, HALF, LONE, PATH, R, Counting, ascending, faults, not_words, random_net, ring)
from tests.test_throws import bad_sides
from tests.test_wishes import asked_once

PAIR = ring("aa")
NETS = [LONE, HALF, PAIR, Net(["a", "b"], [(0, 1, 0, 0)]), Net(["a", "a"], []), ring("aab"),
        Net(["a", "b"], [(0, 1, "x", 1), (0, 1, "w", 1), (1, 1, 0, ()), (0, 1, "x", 0)])]
NETS += [random_net(seed, most=2, roads=4) for seed in range(10)]


def value(word):
    return sum(map(value, word)) * 3 + 1 if isinstance(word, tuple) else len(word) if isinstance(word, str) else word


def mix_thrower(modulus):
    return (lambda sign, number: (value(sign) + number) % modulus,
            lambda state, out: [state * 2 + value(out)],
            lambda state, heard, number: (state + value(heard) * (number + 1) + number) % modulus,
            lambda state: ["s", state // 2])


def race():
    """Throw, say it, be the head if it is above what is heard, go on while both throw alike."""
    def hear(state, heard, number):
        done, own = state
        if done:
            return state
        other = heard[0][1]
        return (1, int(own > other)) if own != other else (0, number)

    return (lambda sign, number: (0, number), lambda state, out: state[1], hear,
            lambda state: state[1] if state[0] else "open")


def slow_stands(net, plan, sides, rounds):
    """The rows of states behind so many rounds, one for each row of throws."""
    begin, say, hear, _ = plan
    many = len(net)
    for throws in itertools.product(itertools.product(range(sides), repeat=many), repeat=rounds + 1):
        stand = [begin(sign, number) for sign, number in zip(net.signs(), throws[0])]
        for throw in throws[1:]:
            heard = [tuple(ascending((into, tuple(say(stand[one], out)) if isinstance(say(stand[one], out), list)
                                      else say(stand[one], out))
                                     for one, other, out, into in net.roads() if other == place)) for place in range(many)]
            stand = [hear(state, row, number) for state, row, number in zip(stand, heard, throw)]
        yield stand


def tuples(thing):
    return tuple(tuples(part) for part in thing) if isinstance(thing, (list, tuple)) else thing


def cases():
    for net in NETS:
        for sides in (1, 2, 3):
            for rounds in range(4):
                if sides ** (len(net) * (rounds + 1)) <= 100:
                    yield net, sides, rounds


class TestChances(unittest.TestCase):
    def test_all_throws_gone_through(self):
        most = 0
        for net, sides, rounds in cases():
            for plan in (mix_thrower(3), mix_thrower(7)):
                rows = [tuples([plan[3](state) for state in stand]) for stand in slow_stands(net, plan, sides, rounds)]
                told = chances(net=net, plan=plan, sides=sides, rounds=rounds)
                self.assertEqual({row: Fraction(*chance) for row, chance in told.items()},
                                 {row: Fraction(rows.count(row), len(rows)) for row in rows})
                self.assertEqual(list(told), ascending(told))
                self.assertTrue(all(type(chance) is tuple and math.gcd(*chance) == 1 for chance in told.values()))
                self.assertIs(type(told), dict)
                self.assertEqual(chances(net, list(plan), sides, rounds), told)
                most = max(most, len(told))
        self.assertGreater(most, 10)

    def test_order_of_words(self):
        plan = (lambda sign, number: number, len, len, lambda state: ["b", (0,), 7, "", ()][state])
        told = chances(LONE, plan, 5, 0)
        self.assertEqual(list(told), [(7,), ("",), ("b",), ((),), ((0,),)])
        self.assertEqual(set(told.values()), {(1, 5)})

    def test_said_for_roads_and_heard_in_order(self):
        asked = []

        def say(state, out):
            asked.append((state, out))
            return out

        def hear(state, heard, number):
            asked.append((state, heard, number))
            return 0

        chances(NETS[6], (lambda sign, number: sign, say, hear, lambda state: 0), 2, 1)
        self.assertEqual(asked[:3], [("a", "w"), ("a", "x"), ("b", 0)])
        heard = ((0, "x"), (1, "w"), (1, "x"), ((), 0))
        self.assertEqual(sorted(map(repr, asked[3:])), sorted(map(repr, [("a", (), 0), ("a", (), 1), ("b", heard, 0),
                                                                          ("b", heard, 1)])))

    def test_asked_once(self):
        for net in NETS:
            counting = Counting(mix_thrower(3))
            chances(net, counting.functions, 2, 3)
            self.assertEqual(len(counting.asked), len(set(map(repr, counting.asked))))
            counting.asked.clear()
            watched, asked = asked_once(lambda index, told: True)
            chances_right(net, [("s", 0), ("s", 1)], watched, counting.functions, 2, 3)
            self.assertEqual(len(counting.asked), len(set(map(repr, counting.asked))))
            self.assertEqual(len(asked), len(set(asked)))
            self.assertEqual({index for index, _ in asked} | {0}, {0})

    def test_no_word(self):
        for thing in not_words():
            for at in range(4):
                plan = list(race())
                plan[at] = lambda *given: thing
                faults(lambda told: chances(PAIR, plan, 2, 1), NoWord, "thing", [(thing, thing)])
                if at < 3:
                    faults(lambda told: chances_right(PAIR, [0], len, plan, 2, 1), NoWord, "thing", [(thing, thing)])
                else:
                    self.assertEqual(chances_right(PAIR, [0], len, plan, 2, 1), [(0, 1), (0, 1)])

    def test_told_dicts_are_new(self):
        told = chances(PAIR, race(), 2, 2)
        told.clear()
        self.assertEqual(len(chances(PAIR, race(), 2, 2)), 3)


class TestRight(unittest.TestCase):
    def test_all_throws_gone_through(self):
        met = set()
        for net, sides, rounds in cases():
            for plan in (mix_thrower(3), mix_thrower(7)):
                answers = [["s", 0], ("s", 1), "x"]
                wanted = []
                for done in range(rounds + 1):
                    rows = [tuples([plan[3](state) for state in stand]) for stand in slow_stands(net, plan, sides, done)]
                    good = [all(answer in (("s", 0), ("s", 1)) for answer in row) and row.count(("s", 1)) < 2
                            for row in rows]
                    wanted.append(Fraction(sum(good), len(rows)))
                told = chances_right(net=net, answers=answers, right=lambda index, row: row.count(("s", 1)) < 2, plan=plan,
                                     sides=sides, rounds=rounds)
                self.assertEqual([Fraction(*chance) for chance in told], wanted)
                self.assertIs(type(told), list)
                self.assertTrue(all(type(chance) is tuple and math.gcd(*chance) == 1 for chance in told))
                met.update(told)
        self.assertGreater(len(met), 5)

    def test_at_most_best_worth(self):
        plans = [race()] + [mix_thrower(modulus)[:3] + (lambda state: state % 2,) for modulus in (2, 3, 5)]
        for net in [LONE, HALF, PAIR, Net(["a", "a"], []), Net(["a", "b"], [(0, 1, 0, 0)])]:
            answers, right = written([net], "head")
            for plan in plans if net == PAIR else plans[1:]:
                for sides, rounds in ((1, 2), (2, 1), (3, 0)):
                    told = chances_right(net, answers, right, plan, sides, rounds)
                    for done, chance in enumerate(told):
                        best = best_worth([net], answers, right, sides ** (done + 1))
                        self.assertLessEqual(Fraction(*chance), Fraction(*best))

    def test_truth_of_right(self):
        for thing in (1, "yes", [0], True, 0, "", [], None):
            told = chances_right(LONE, [0], lambda index, row: thing, (lambda sign, number: 0, len, len, lambda state: 0),
                                 2, 0)
            self.assertEqual(told, [(1, 1) if thing else (0, 1)])

    def test_errors_in_order(self):
        for thing in ANY_OBJECTS:
            if not isinstance(thing, (list, tuple)) or len(thing) == 0:
                faults(lambda told: chances_right(R, told, None, None, None, None), BadAnswers, "index", [(thing, 0)])
            if not callable(thing):
                faults(lambda told: chances_right(R, [0], told, None, None, None), BadRight, "thing", [(thing, thing)])
            for call in (lambda told: chances_right(R, [0], len, told, None, None),
                         lambda told: chances(R, told, None, None)):
                faults(call, BadPlan, "thing", [(thing, thing)])
                three = (len, thing, len)
                faults(call, BadPlan, "thing", [(three, three)])
            if type(thing) is not int or thing < 0:
                for call in (lambda told: chances_right(R, [0], len, race(), 2, told),
                             lambda told: chances(R, race(), 2, told)):
                    faults(call, BadNumber, "thing", [(thing, thing)])
        for call in (lambda told: chances_right(R, [0], len, race(), told, None),
                     lambda told: chances(R, race(), told, None)):
            faults(call, BadSides, "thing", bad_sides())
        faults(lambda told: chances_right(R, told, None, None, None, None), BadAnswers, "index", [([0, [1], (1,)], 2)])

    def test_errors_go_through(self):
        def fail(*given):
            raise KeyError

        for at in range(4):
            plan = list(race())
            plan[at] = fail
            for call in (lambda: chances(PAIR, plan, 2, 3), lambda: chances_right(PAIR, [0, 1], len, plan, 2, 3)):
                with self.assertRaises(KeyError):
                    call()

    def test_limits(self):
        begin = time.time()
        told = chances(PATH, mix_thrower(5), 4, 6)
        self.assertEqual(sum(Fraction(*chance) for chance in told.values()), 1)
        told = chances_right(ring("aaaaaa"), [("s", 0), ("s", 1)], lambda index, row: row[0] == row[1], mix_thrower(2), 2, 6)
        self.assertEqual(len(told), 7)
        self.assertLess(time.time() - begin, 10)


if __name__ == "__main__":
    unittest.main()
